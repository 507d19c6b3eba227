/- Several texts laid together: SchMem, SchName, SchFind. -/
import Derived.Test.YtfljhnalmiibeaaGreatMbTxtEq
import Derived.Laws.NewBlocks
import Derived.Deep.WholeRow
import Derived.Shelf.Abstract
import Derived.Lib.Strings
import Derived.Deep.CutBlock
import Derived.Deep.DeepCutAuto
namespace Go.Proofs.YtfljhnalmiibeaaGreat
set_option maxRecDepth 100000
open Go.RowKit
abbrev RdF (w : World) (A : Option Addr) (n c : Nat) (l : List F3) : Prop := RdG F3.cells 3 w A n c l
/-- a table's parts read so -/
structure T6.Reads (w : World) (t : T6) : Prop where
  cols : RdC w t.ca t.nc t.cc t.cols
  uni : Rd w t.ua t.nu t.uc (vals .i64 t.uni)
  chk : t.nh ≤ t.hc ∧ t.hc ≤ maxLen
  fks : RdF w t.fa t.nf t.fc t.fks
  sums : RdF w t.sa t.ns t.sc t.sums
theorem T6.Reads.below {w w' : World} {t : T6} (h : t.Reads w) (b : Below w.heap.size w w') : t.Reads w' :=
  ⟨h.cols.below b, h.uni.below b, h.chk, h.fks.below b, h.sums.below b⟩
/-- a schema's tables read so -/
structure RdS11 (w : World) (A : Option Addr) (n c : Nat) (l : List T6) : Prop where
  row : RdG T6.cells 6 w A n c l
  each : ∀ t ∈ l, t.Reads w
theorem RdS11.below {w w' : World} {A : Option Addr} {n c : Nat} {l : List T6} (h : RdS11 w A n c l) (b : Below w.heap.size w w') : RdS11 w' A n c l :=
  ⟨h.row.below b, fun t ht => (h.each t ht).below b⟩
theorem RdS11.len {w : World} {A : Option Addr} {n c : Nat} {l : List T6} (h : RdS11 w A n c l) : l.length = n := h.row.len
theorem RdS11.le {w : World} {A : Option Addr} {n c : Nat} {l : List T6} (h : RdS11 w A n c l) : n ≤ 9223372036854775807 := h.row.le
theorem RdS11.upto {w : World} {A : Option Addr} {n c : Nat} {l : List T6} (h : RdS11 w A n c l) {k : Nat} (hk : k ≤ n) : RdS11 w A k c (l.take k) :=
  ⟨by have := h.row.upto hk (Nat.le_trans hk h.row.cap) (Nat.le_refl c); exact this, fun t ht => h.each t (List.mem_of_mem_take ht)⟩
theorem RdG.f3 {w : World} {A : Option Addr} {n c : Nat} {l : List F3} (h : RdF w A n c l) {k : Nat} (hk : k < n) :
    ∃ b o x, A = some ⟨b, o, none⟩ ∧ b < w.heap.size ∧ l[k]? = some x ∧ ∀ w', Below w.heap.size w w' → w'.cell? ⟨b, o + k * 3, none⟩ = some (.int .i64 x.a) ∧ w'.cell? ⟨b, o + k * 3 + 1, none⟩ = some (.int .i64 x.b) ∧ w'.cell? ⟨b, o + k * 3 + 2, none⟩ = some (.int .i64 x.c) := by
  obtain ⟨b, o, x, rfl, hb, hx, hc⟩ := h.at_ hk
  exact ⟨b, o, x, rfl, hb, hx, fun w' hw => ⟨(hw.cell hb).trans (hc 0 _ rfl), (hw.cell hb).trans (hc 1 _ rfl), (hw.cell hb).trans (hc 2 _ rfl)⟩⟩
theorem RdS11.tab {w : World} {A : Option Addr} {n c : Nat} {l : List T6} (h : RdS11 w A n c l) {k : Nat} (hk : k < n) :
    ∃ b o x, A = some ⟨b, o, none⟩ ∧ b < w.heap.size ∧ l[k]? = some x ∧ x.Reads w ∧ ∀ w', Below w.heap.size w w' → w'.cell? ⟨b, o + k * 6, none⟩ = some (.string x.nm) ∧ w'.cell? ⟨b, o + k * 6 + 1, none⟩ = some (.slice x.ca x.nc x.cc) ∧ w'.cell? ⟨b, o + k * 6 + 2, none⟩ = some (.slice x.ua x.nu x.uc)
      ∧ w'.cell? ⟨b, o + k * 6 + 3, none⟩ = some (.slice x.ha x.nh x.hc) ∧ w'.cell? ⟨b, o + k * 6 + 4, none⟩ = some (.slice x.fa x.nf x.fc) ∧ w'.cell? ⟨b, o + k * 6 + 5, none⟩ = some (.slice x.sa x.ns x.sc) := by
  obtain ⟨b, o, x, rfl, hb, hx, hc⟩ := h.row.at_ hk
  exact ⟨b, o, x, rfl, hb, hx, h.each x (List.mem_of_getElem? hx), fun w' hw => ⟨(hw.cell hb).trans (hc 0 _ rfl), (hw.cell hb).trans (hc 1 _ rfl), (hw.cell hb).trans (hc 2 _ rfl), (hw.cell hb).trans (hc 3 _ rfl), (hw.cell hb).trans (hc 4 _ rfl), (hw.cell hb).trans (hc 5 _ rfl)⟩⟩
/-- what boxes hold -/
abbrev tabBox (t : T6) : Obj := .cells #[.string t.nm, .slice t.ca t.nc t.cc, .slice t.ua t.nu t.uc, .slice t.ha t.nh t.hc, .slice t.fa t.nf t.fc, .slice t.sa t.ns t.sc] 66
abbrev schBox (A : Option Addr) (n c : Nat) : Obj := .cells #[.slice A n c] 24
abbrev colBox (c : C4) : Obj := .cells #[.string c.nm, .int .i64 c.k, .int .i64 c.t, .bool c.z] 103
abbrev fkBox (x : F3) : Obj := .cells #[.int .i64 x.a, .int .i64 x.b, .int .i64 x.c] 158
abbrev sumBox (x : F3) : Obj := .cells #[.int .i64 x.a, .int .i64 x.b, .int .i64 x.c] 160
theorem tab_row {w : World} {g : Nat} {t : T6} (h : w.heap[g]? = some (tabBox t)) : w.cell? ⟨g, 0, none⟩ = some (.string t.nm) ∧ w.cell? ⟨g, 1, none⟩ = some (.slice t.ca t.nc t.cc) ∧ w.cell? ⟨g, 2, none⟩ = some (.slice t.ua t.nu t.uc)
    ∧ w.cell? ⟨g, 3, none⟩ = some (.slice t.ha t.nh t.hc) ∧ w.cell? ⟨g, 4, none⟩ = some (.slice t.fa t.nf t.fc) ∧ w.cell? ⟨g, 5, none⟩ = some (.slice t.sa t.ns t.sc) :=
  ⟨cell_row h 0, cell_row h 1, cell_row h 2, cell_row h 3, cell_row h 4, cell_row h 5⟩
theorem sch_row {w : World} {g : Nat} {A : Option Addr} {n c : Nat} (h : w.heap[g]? = some (schBox A n c)) : w.cell? ⟨g, 0, none⟩ = some (.slice A n c) := cell_row h 0
theorem col_row {w : World} {g : Nat} {c : C4} (h : w.heap[g]? = some (colBox c)) : w.cell? ⟨g, 0, none⟩ = some (.string c.nm) ∧ w.cell? ⟨g, 1, none⟩ = some (.int .i64 c.k) ∧ w.cell? ⟨g, 2, none⟩ = some (.int .i64 c.t) ∧ w.cell? ⟨g, 3, none⟩ = some (.bool c.z) :=
  ⟨cell_row h 0, cell_row h 1, cell_row h 2, cell_row h 3⟩
theorem f3_row {w : World} {g : Nat} {x : F3} {t : TypeId} (h : w.heap[g]? = some (.cells #[.int .i64 x.a, .int .i64 x.b, .int .i64 x.c] t)) : w.cell? ⟨g, 0, none⟩ = some (.int .i64 x.a) ∧ w.cell? ⟨g, 1, none⟩ = some (.int .i64 x.b) ∧ w.cell? ⟨g, 2, none⟩ = some (.int .i64 x.c) :=
  ⟨cell_row h 0, cell_row h 1, cell_row h 2⟩
theorem str_row {w : World} {g : Nat} {s : ByteArray} {t : TypeId} (h : w.heap[g]? = some (.cells #[.string s] t)) : w.cell? ⟨g, 0, none⟩ = some (.string s) := cell_row h 0
theorem int_row {w : World} {g : Nat} {z : Int} {t : TypeId} (h : w.heap[g]? = some (.cells #[.int .i64 z] t)) : w.cell? ⟨g, 0, none⟩ = some (.int .i64 z) := cell_row h 0
/-- a closure over one thing tells p of it, in every world behind w0 -/
def TellsA {α : Type} (P : Program) (g : Nat) (cb : Array Value) (agg : α → Value) (p : α → Bool) (w0 : World) : Prop :=
  ∀ W, Below w0.heap.size w0 W → ∀ x : α, Calls P g (#[agg x] ++ cb) W fun e W' => e = .returned (.bool (p x)) ∧ Below W.heap.size W W'
end Go.Proofs.YtfljhnalmiibeaaGreat

namespace Go.Proofs.YtfljhnalmiibeaaGreat
set_option maxRecDepth 100000
open Go.RowKit
set_option maxHeartbeats 1600000 in
theorem letter_any (b : Int) (w : World) : Calls Tryz.prog 150 #[.int .u8 b] w fun e w' => e = .returned (.bool (lowB b)) ∧ Below w.heap.size w w' := by
  have hb := Lib.hid (Below.refl w.heap.size w)
  obtain ⟨r, hr⟩ : ∃ r, Hid (lowB b = r) := ⟨_, rfl⟩
  rw [hr.out]
  go_enter Tryz.func150, Tryz.ntmps150
  by_cases h1 : 97 ≤ b
  · by_cases h2 : b ≤ 122
    · have h3 : Hid (r = true) := by show _ = _; rw [← hr.out]; simp [lowB, h1, h2]
      go_wp2
      go_ret
      exact ⟨ret_bool h3.out.symm, hb.out⟩
    · have h3 : Hid (r = false) := by show _ = _; rw [← hr.out]; simp [lowB, h1, h2]
      go_wp2
      go_ret
      exact ⟨ret_bool h3.out.symm, hb.out⟩
  · have h3 : Hid (r = false) := by show _ = _; rw [← hr.out]; simp [lowB, h1]
    go_wp2
    go_ret
    exact ⟨ret_bool h3.out.symm, hb.out⟩
set_option maxHeartbeats 1600000 in
theorem digit_any (b : Int) (w : World) : Calls Tryz.prog 151 #[.int .u8 b] w fun e w' => e = .returned (.bool (digB b)) ∧ Below w.heap.size w w' := by
  have hb := Lib.hid (Below.refl w.heap.size w)
  obtain ⟨r, hr⟩ : ∃ r, Hid (digB b = r) := ⟨_, rfl⟩
  rw [hr.out]
  go_enter Tryz.func151, Tryz.ntmps151
  by_cases h1 : 48 ≤ b
  · by_cases h2 : b ≤ 57
    · have h3 : Hid (r = true) := by show _ = _; rw [← hr.out]; simp [digB, h1, h2]
      go_wp2
      go_ret
      exact ⟨ret_bool h3.out.symm, hb.out⟩
    · have h3 : Hid (r = false) := by show _ = _; rw [← hr.out]; simp [digB, h1, h2]
      go_wp2
      go_ret
      exact ⟨ret_bool h3.out.symm, hb.out⟩
  · have h3 : Hid (r = false) := by show _ = _; rw [← hr.out]; simp [digB, h1]
    go_wp2
    go_ret
    exact ⟨ret_bool h3.out.symm, hb.out⟩
theorem sbytes_at {s : ByteArray} {k : Nat} {b : Int} (h : (sbytes s)[k]? = some b) (W : World) : (Instr.index 9 (.string s) (.int .i64 (k : Int))).run Tryz.prog W = .ok (.int .u8 b) W := by
  have hk : k < s.size := by rw [← sbytes_len]; exact (List.getElem?_eq_some_iff.1 h).1
  have z1 : (0 : Int) ≤ (k : Int) := by omega
  have z2 : (k : Int) < (s.size : Int) := by omega
  rw [run_index_string W _ _ _ _ Tryz.underlying9, dif_pos ⟨z1, z2⟩]
  obtain ⟨h1, h2⟩ := List.getElem?_eq_some_iff.1 h
  rw [← h2]
  simp [sbytes]
  rfl
theorem sbytes_at0 {s : ByteArray} {b : Int} (h : (sbytes s)[0]? = some b) (W : World) : (Instr.index 9 (.string s) (.int .i64 0)).run Tryz.prog W = .ok (.int .u8 b) W := sbytes_at h W
theorem sbytes_drop {l : List Int} {k : Nat} {b : Int} (h : l[k]? = some b) (p : Int → Bool) : (l.drop k).all p = (p b && (l.drop (k + 1)).all p) := by
  obtain ⟨h1, h2⟩ := List.getElem?_eq_some_iff.1 h
  rw [List.drop_eq_getElem_cons h1, h2, List.all_cons]
theorem nameZ_small {s : ByteArray} (h : s.size < 1) : nameZ s = false := by
  simp [nameZ, nameL, sbytes_len, show ¬ 1 ≤ s.size by omega]
theorem nameZ_great {s : ByteArray} (h : ¬ s.size ≤ 12) : nameZ s = false := by
  simp [nameZ, nameL, sbytes_len, h]
theorem nameZ_low {s : ByteArray} {b : Int} (h : (sbytes s)[0]? = some b) (hb : lowB b = false) : nameZ s = false := by
  simp [nameZ, nameL, List.getD, h, hb]
theorem nameZ_ok {s : ByteArray} {b : Int} (h1 : 1 ≤ s.size) (h2 : s.size ≤ 12) (h : (sbytes s)[0]? = some b) (hb : lowB b = true) : nameZ s = (sbytes s).all okB11 := by
  simp [nameZ, nameL, sbytes_len, h1, h2, List.getD, h, hb]
set_option maxHeartbeats 3200000 in
theorem name_any (s : ByteArray) (w : World) : Calls Tryz.prog 117 #[.string s] w fun e w' => e = .returned (.bool (nameZ s)) ∧ Below w.heap.size w w' := by
  obtain ⟨r, hr⟩ : ∃ r, Hid (nameZ s = r) := ⟨_, rfl⟩
  rw [hr.out]
  have HB0 := Lib.hid (Below.refl w.heap.size w)
  obtain ⟨n, hn⟩ : ∃ n, s.size = n := ⟨_, rfl⟩
  have HN := Lib.hid hn
  go_enter Tryz.func117, Tryz.ntmps117
  by_cases h1 : n < 1
  · have h3 : Hid (r = false) := by show _ = _; rw [← hr.out]; exact nameZ_small (by rw [HN.out]; exact h1)
    have h2 : (n : Int) < 1 := by omega
    go_wp2
    go_ret
    exact ⟨ret_bool h3.out.symm, HB0.out⟩
  · by_cases h2 : n ≤ 12
    · obtain ⟨b, hb⟩ : ∃ b, (sbytes s)[0]? = some b := ⟨_, List.getElem?_eq_getElem (by rw [sbytes_len]; omega)⟩
      have IX := fun W => sbytes_at0 hb W
      have z1 : ¬ (n : Int) < 1 := by omega
      have z2 : ¬ (12 : Int) < (n : Int) := by omega
      cases hl : lowB b with
      | false =>
        have h3 : Hid (r = false) := by show _ = _; rw [← hr.out]; exact nameZ_low hb hl
        have C := Lib.hid (letter_any b w)
        rw [hl] at C
        clear hl hb
        go_wp2_with fail
        refine C.out.mono ?_
        rintro e w2 ⟨rfl, b2⟩
        have HB := Lib.hid b2
        clear b2
        go_wp2_with fail
        go_ret
        exact ⟨ret_bool h3.out.symm, HB.out⟩
      | true =>
        have h3 : Hid (r = (sbytes s).all okB11) := by show _ = _; rw [← hr.out]; exact nameZ_ok (by omega) (by omega) hb hl
        have C := Lib.hid (letter_any b w)
        rw [hl] at C
        clear hl hb hr
        go_wp2_with fail
        refine C.out.mono ?_
        rintro e w2 ⟨rfl, b2⟩
        have HB := Lib.hid b2
        clear b2 C IX
        go_wp2_with fail
        go_loopw [20] (fun i wr => ∃ k : Nat, k ≤ n ∧ i = .int .i64 k ∧ Hid (r = ((sbytes s).drop k).all okB11) ∧ Hid (Below w.heap.size w wr)) (fun i _ => n - (intOf i).toNat)
        case atStart => exact ⟨0, Nat.zero_le _, rfl, by show _ = _; rw [h3.out]; rfl, HB⟩
        case round =>
          clear HB h3
          obtain ⟨k, hk, rfl, h3, HB⟩ := hrel
          by_cases hlt : k < n
          · obtain ⟨b, hb⟩ : ∃ b, (sbytes s)[k]? = some b := ⟨_, List.getElem?_eq_getElem (by rw [sbytes_len]; omega)⟩
            have IX := fun W => sbytes_at hb W
            have h4 : Hid (r = (okB11 b && ((sbytes s).drop (k + 1)).all okB11)) := by show _ = _; rw [h3.out]; exact sbytes_drop hb _
            have y1 : (k : Int) < (n : Int) := by omega
            have C1 := Lib.hid (letter_any b wr)
            clear hb h3
            cases hl : lowB b with
            | true =>
              rw [hl] at C1
              have h5 : Hid (r = ((sbytes s).drop (k + 1)).all okB11) := by show _ = _; rw [h4.out]; simp [okB11, hl]
              clear hl h4
              go_wp2_with fail
              refine C1.out.mono ?_
              rintro e w3 ⟨rfl, b3⟩
              have HB3 := Lib.hid (below_then HB.out b3)
              clear b3 C1
              go_wp2_with fail
              exact ⟨⟨k + 1, by omega, by go_num, h5, HB3⟩, by simp [intOf]; omega⟩
            | false =>
              rw [hl] at C1
              have h4 : Hid (r = ((digB b || b == 95) && ((sbytes s).drop (k + 1)).all okB11)) := by show _ = _; rw [h4.out]; simp [okB11, hl]
              clear hl
              go_wp2_with fail
              refine C1.out.mono ?_
              rintro e w3 ⟨rfl, b3⟩
              have HB3 := Lib.hid (below_then HB.out b3)
              have C2 := Lib.hid (digit_any b w3)
              clear b3 C1 HB
              cases hd : digB b with
              | true =>
                rw [hd] at C2
                have h5 : Hid (r = ((sbytes s).drop (k + 1)).all okB11) := by show _ = _; rw [h4.out]; simp [hd]
                clear hd h4
                go_wp2_with fail
                refine C2.out.mono ?_
                rintro e w4 ⟨rfl, b4⟩
                have HB4 := Lib.hid (below_then HB3.out b4)
                clear b4 C2
                go_wp2_with fail
                exact ⟨⟨k + 1, by omega, by go_num, h5, HB4⟩, by simp [intOf]; omega⟩
              | false =>
                rw [hd] at C2
                go_wp2_with fail
                refine C2.out.mono ?_
                rintro e w4 ⟨rfl, b4⟩
                have HB4 := Lib.hid (below_then HB3.out b4)
                clear b4 C2
                by_cases h95 : b = 95
                · subst h95
                  have h5 : Hid (r = ((sbytes s).drop (k + 1)).all okB11) := by show _ = _; rw [h4.out]; simp
                  clear hd h4
                  go_wp2_with fail
                  exact ⟨⟨k + 1, by omega, by go_num, h5, HB4⟩, by simp [intOf]; omega⟩
                · have h5 : Hid (r = false) := by show _ = _; rw [h4.out]; simp [hd, h95]
                  have e9 : (b == 95) = false := by simpa using h95
                  clear hd h4
                  go_wp2_with fail
                  go_ret
                  exact ⟨ret_bool h5.out.symm, HB4.out⟩
          · have h5 : Hid (r = true) := by show _ = _; rw [h3.out, List.drop_of_length_le (by rw [sbytes_len]; omega)]; rfl
            have y1 : ¬ (k : Int) < (n : Int) := by omega
            go_wp2_with fail
            go_ret
            exact ⟨ret_bool h5.out.symm, HB.out⟩
    · have h3 : Hid (r = false) := by show _ = _; rw [← hr.out]; exact nameZ_great (by rw [HN.out]; exact h2)
      have z1 : ¬ (n : Int) < 1 := by omega
      have z2 : (12 : Int) < (n : Int) := by omega
      go_wp2
      go_ret
      exact ⟨ret_bool h3.out.symm, HB0.out⟩
end Go.Proofs.YtfljhnalmiibeaaGreat

namespace Go.Proofs.YtfljhnalmiibeaaGreat
set_option maxRecDepth 100000
open Go.RowKit
set_option maxHeartbeats 1600000 in
theorem found_any (o : Option Nat) (n : Nat) (ho : ∀ k, o = some k → k < n) (w : World) : Calls Tryz.prog 152 #[.int .i64 (placeE o)] w fun e w' => e = .returned (.tuple #[.int .i64 (at0 o), .bool o.isSome]) ∧ Below w.heap.size w w' := by
  have hb := Lib.hid (Below.refl w.heap.size w)
  go_enter Tryz.func152, Tryz.ntmps152
  cases o with
  | none =>
    simp only [placeE, at0, Option.isSome]
    go_wp2
    go_ret2
    exact ⟨rfl, hb.out⟩
  | some k =>
    have := ho k rfl
    simp only [placeE, at0, Option.isSome]
    have h1 : max (k : Int) 0 = (k : Int) := by omega
    have h2 : (0 : Int) ≤ (k : Int) := by omega
    have h3 : (k : Int) ≥ 0 := h2
    go_wp2
    go_ret2
    exact ⟨rfl, hb.out⟩
theorem str_eq (a b : ByteArray) : (a.toList == b.toList) = decide (a = b) := by
  by_cases h : a = b
  · subst h; simp
  · have : (a.toList == b.toList) = false := by simpa using fun e => h (by
      rw [Lib.toList_data, Lib.toList_data] at e
      exact ByteArray.ext (Array.toList_inj.1 e))
    rw [this, decide_eq_false h]
theorem findP_hit {α : Type} {p : α → Bool} {l : List α} {k : Nat} {x : α} (hx : l[k]? = some x) (hp : p x = true) (ha : ∀ j y, j < k → l[j]? = some y → p y = false) : findP p l = some k := (findP_some p l k).2 ⟨x, hx, hp, ha⟩
theorem findP_miss {α : Type} {p : α → Bool} {l : List α} {n : Nat} (hn : l.length ≤ n) (ha : ∀ j y, j < n → l[j]? = some y → p y = false) : findP p l = none := by
  refine (findP_none p l).2 fun x hx => ?_
  obtain ⟨j, hj, rfl⟩ := List.getElem_of_mem hx
  exact ha j _ (by omega) (List.getElem?_eq_getElem hj)
theorem ahead_next {α : Type} {p : α → Bool} {l : List α} {k : Nat} {x : α} (hx : l[k]? = some x) (hp : p x = false) (ha : ∀ j y, j < k → l[j]? = some y → p y = false) : ∀ j y, j < k + 1 → l[j]? = some y → p y = false := by
  intro j y hj hy
  by_cases h : j = k
  · subst h; rw [hx] at hy; cases hy; exact hp
  · exact ha j y (by omega) hy
theorem findP_lt {α : Type} {p : α → Bool} {l : List α} {k : Nat} (h : findP p l = some k) : k < l.length := by
  obtain ⟨x, hx, _⟩ := (findP_some p l k).1 h
  exact (List.getElem?_eq_some_iff.1 hx).1
set_option maxHeartbeats 3200000 in
theorem indexT_any (g : Nat) (cb : Array Value) (p : T6 → Bool) (A : Option Addr) (n c : Nat) (l : List T6) (w : World) (eg : ∀ args w, (callFunc g args).run Tryz.prog w = .ok (.enter g args) w)
    (h : RdS11 w A n c l) (hp : TellsA Tryz.prog g cb T6.agg p w) :
    Calls Tryz.prog 153 #[.slice A n c, .func (.func g) #[] cb] w fun e w' => e = .returned (.int .i64 (placeE (findP p l))) ∧ Below w.heap.size w w' := by
  have hle := h.le
  have HR := Lib.hid h; have HL := Lib.hid h.len; have HP := Lib.hid hp
  have HB0 := Lib.hid (Below.refl w.heap.size w)
  obtain ⟨r, hr⟩ : ∃ r, Hid (placeE (findP p l) = r) := ⟨_, rfl⟩
  rw [hr.out]
  clear h hp
  go_enter Tryz.func153, Tryz.ntmps153
  go_wp2_with fail
  go_loopw [8] (fun i wr => ∃ k : Nat, k ≤ n ∧ i = .int .i64 k ∧ Hid (∀ j y, j < k → l[j]? = some y → p y = false) ∧ Hid (Below w.heap.size w wr)) (fun i _ => n - (intOf i).toNat)
  case atStart => exact ⟨0, Nat.zero_le _, rfl, by show ∀ j y, _; intro j y h; exact absurd h (by omega), HB0⟩
  case round =>
    clear HB0
    obtain ⟨k, hk, rfl, hA, HB⟩ := hrel
    by_cases hlt : k < n
    · obtain ⟨b, o, x, rfl, hb, hx, hxr, hld⟩ := HR.out.tab hlt
      obtain ⟨c0, c1, c2, c3, c4, c5⟩ := hld wr HB.out
      have y1 : (k : Int) < (n : Int) := by omega
      have y0 : (0 : Int) ≤ (k : Int) := by omega
      obtain ⟨q, hq⟩ : ∃ q, Hid (p x = q) := ⟨_, rfl⟩
      have C : Hid (Calls Tryz.prog g (#[T6.agg x] ++ cb) wr fun e W' => e = .returned (.bool q) ∧ Below wr.heap.size wr W') := by
        have := HP.out wr HB.out x
        rwa [hq.out] at this
      have HX := Lib.hid hx
      clear hld hx hxr hb
      go_wp2_with fail
      refine C.out.mono ?_
      rintro e w2 ⟨rfl, b2⟩
      have HB2 := Lib.hid (below_then HB.out b2)
      clear C b2 HB
      cases q with
      | true =>
        have h3 : Hid (r = (k : Int)) := by show _ = _; rw [← hr.out, findP_hit HX.out hq.out hA.out]; rfl
        go_wp2_with fail
        go_ret
        exact ⟨ret_int h3.out.symm, HB2.out⟩
      | false =>
        have h3 : Hid (∀ j y, j < k + 1 → l[j]? = some y → p y = false) := by show ∀ j y, _; exact ahead_next HX.out hq.out hA.out
        go_wp2_with fail
        exact ⟨⟨k + 1, by omega, by go_num, h3, HB2⟩, by simp [intOf]; omega⟩
    · obtain rfl : k = n := by omega
      have h3 : Hid (r = -1) := by show _ = _; rw [← hr.out, findP_miss (Nat.le_of_eq HL.out) hA.out]; rfl
      have y1 : ¬ (k : Int) < (k : Int) := by omega
      go_wp2_with fail
      go_ret
      exact ⟨ret_int h3.out.symm, HB.out⟩
set_option maxHeartbeats 3200000 in
theorem indexC_any (g : Nat) (cb : Array Value) (p : C4 → Bool) (A : Option Addr) (n c : Nat) (l : List C4) (w : World) (eg : ∀ args w, (callFunc g args).run Tryz.prog w = .ok (.enter g args) w)
    (h : RdC w A n c l) (hp : TellsA Tryz.prog g cb C4.agg p w) :
    Calls Tryz.prog 155 #[.slice A n c, .func (.func g) #[] cb] w fun e w' => e = .returned (.int .i64 (placeE (findP p l))) ∧ Below w.heap.size w w' := by
  have hle := h.le
  have HR := Lib.hid h; have HL := Lib.hid h.len; have HP := Lib.hid hp
  have HB0 := Lib.hid (Below.refl w.heap.size w)
  obtain ⟨r, hr⟩ : ∃ r, Hid (placeE (findP p l) = r) := ⟨_, rfl⟩
  rw [hr.out]
  clear h hp
  go_enter Tryz.func155, Tryz.ntmps155
  go_wp2_with fail
  go_loopw [8] (fun i wr => ∃ k : Nat, k ≤ n ∧ i = .int .i64 k ∧ Hid (∀ j y, j < k → l[j]? = some y → p y = false) ∧ Hid (Below w.heap.size w wr)) (fun i _ => n - (intOf i).toNat)
  case atStart => exact ⟨0, Nat.zero_le _, rfl, by show ∀ j y, _; intro j y h; exact absurd h (by omega), HB0⟩
  case round =>
    clear HB0
    obtain ⟨k, hk, rfl, hA, HB⟩ := hrel
    by_cases hlt : k < n
    · obtain ⟨b, o, x, rfl, hb, hx, hld⟩ := HR.out.col hlt
      obtain ⟨c0, c1, c2, c3⟩ := hld wr HB.out
      have y1 : (k : Int) < (n : Int) := by omega
      have y0 : (0 : Int) ≤ (k : Int) := by omega
      obtain ⟨q, hq⟩ : ∃ q, Hid (p x = q) := ⟨_, rfl⟩
      have C : Hid (Calls Tryz.prog g (#[C4.agg x] ++ cb) wr fun e W' => e = .returned (.bool q) ∧ Below wr.heap.size wr W') := by
        have := HP.out wr HB.out x
        rwa [hq.out] at this
      have HX := Lib.hid hx
      clear hld hx hb
      go_wp2_with fail
      refine C.out.mono ?_
      rintro e w2 ⟨rfl, b2⟩
      have HB2 := Lib.hid (below_then HB.out b2)
      clear C b2 HB
      cases q with
      | true =>
        have h3 : Hid (r = (k : Int)) := by show _ = _; rw [← hr.out, findP_hit HX.out hq.out hA.out]; rfl
        go_wp2_with fail
        go_ret
        exact ⟨ret_int h3.out.symm, HB2.out⟩
      | false =>
        have h3 : Hid (∀ j y, j < k + 1 → l[j]? = some y → p y = false) := by show ∀ j y, _; exact ahead_next HX.out hq.out hA.out
        go_wp2_with fail
        exact ⟨⟨k + 1, by omega, by go_num, h3, HB2⟩, by simp [intOf]; omega⟩
    · obtain rfl : k = n := by omega
      have h3 : Hid (r = -1) := by show _ = _; rw [← hr.out, findP_miss (Nat.le_of_eq HL.out) hA.out]; rfl
      have y1 : ¬ (k : Int) < (k : Int) := by omega
      go_wp2_with fail
      go_ret
      exact ⟨ret_int h3.out.symm, HB.out⟩
set_option maxHeartbeats 3200000 in
theorem indexF_any (g : Nat) (cb : Array Value) (p : F3 → Bool) (A : Option Addr) (n c : Nat) (l : List F3) (w : World) (eg : ∀ args w, (callFunc g args).run Tryz.prog w = .ok (.enter g args) w)
    (h : RdF w A n c l) (hp : TellsA Tryz.prog g cb F3.agg p w) :
    Calls Tryz.prog 157 #[.slice A n c, .func (.func g) #[] cb] w fun e w' => e = .returned (.int .i64 (placeE (findP p l))) ∧ Below w.heap.size w w' := by
  have hle := h.le
  have HR := Lib.hid h; have HL := Lib.hid h.len; have HP := Lib.hid hp
  have HB0 := Lib.hid (Below.refl w.heap.size w)
  obtain ⟨r, hr⟩ : ∃ r, Hid (placeE (findP p l) = r) := ⟨_, rfl⟩
  rw [hr.out]
  clear h hp
  go_enter Tryz.func157, Tryz.ntmps157
  go_wp2_with fail
  go_loopw [8] (fun i wr => ∃ k : Nat, k ≤ n ∧ i = .int .i64 k ∧ Hid (∀ j y, j < k → l[j]? = some y → p y = false) ∧ Hid (Below w.heap.size w wr)) (fun i _ => n - (intOf i).toNat)
  case atStart => exact ⟨0, Nat.zero_le _, rfl, by show ∀ j y, _; intro j y h; exact absurd h (by omega), HB0⟩
  case round =>
    clear HB0
    obtain ⟨k, hk, rfl, hA, HB⟩ := hrel
    by_cases hlt : k < n
    · obtain ⟨b, o, x, rfl, hb, hx, hld⟩ := HR.out.f3 hlt
      obtain ⟨c0, c1, c2⟩ := hld wr HB.out
      have y1 : (k : Int) < (n : Int) := by omega
      have y0 : (0 : Int) ≤ (k : Int) := by omega
      obtain ⟨q, hq⟩ : ∃ q, Hid (p x = q) := ⟨_, rfl⟩
      have C : Hid (Calls Tryz.prog g (#[F3.agg x] ++ cb) wr fun e W' => e = .returned (.bool q) ∧ Below wr.heap.size wr W') := by
        have := HP.out wr HB.out x
        rwa [hq.out] at this
      have HX := Lib.hid hx
      clear hld hx hb
      go_wp2_with fail
      refine C.out.mono ?_
      rintro e w2 ⟨rfl, b2⟩
      have HB2 := Lib.hid (below_then HB.out b2)
      clear C b2 HB
      cases q with
      | true =>
        have h3 : Hid (r = (k : Int)) := by show _ = _; rw [← hr.out, findP_hit HX.out hq.out hA.out]; rfl
        go_wp2_with fail
        go_ret
        exact ⟨ret_int h3.out.symm, HB2.out⟩
      | false =>
        have h3 : Hid (∀ j y, j < k + 1 → l[j]? = some y → p y = false) := by show ∀ j y, _; exact ahead_next HX.out hq.out hA.out
        go_wp2_with fail
        exact ⟨⟨k + 1, by omega, by go_num, h3, HB2⟩, by simp [intOf]; omega⟩
    · obtain rfl : k = n := by omega
      have h3 : Hid (r = -1) := by show _ = _; rw [← hr.out, findP_miss (Nat.le_of_eq HL.out) hA.out]; rfl
      have y1 : ¬ (k : Int) < (k : Int) := by omega
      go_wp2_with fail
      go_ret
      exact ⟨ret_int h3.out.symm, HB.out⟩
theorem Tryz.egCloT : ∀ args w, (callFunc 154 args).run Tryz.prog w = .ok (.enter 154 args) w := enters_of Tryz.func154 (by kernel_rfl) rfl
set_option maxHeartbeats 1600000 in
theorem cloT_any (s : ByteArray) (g : Nat) (w0 : World) (hs : w0.cell? ⟨g, 0, none⟩ = some (.string s)) :
    TellsA Tryz.prog 154 #[.pointer (some ⟨g, 0, none⟩)] T6.agg (fun t => decide (t.nm = s)) w0 := by
  intro W hW x
  have B1 := below_new hW (tabBox x)
  have hg := heap_alloc_new W (tabBox x)
  have hc := tab_row hg
  obtain ⟨c0, _⟩ := hc
  have d0 := (B1.cell (p := ⟨g, 0, none⟩) (block_lt_of_cell hs)).trans hs
  have HB := Lib.hid (below_new (Below.refl W.heap.size W) (tabBox x))
  obtain ⟨q, hq⟩ : ∃ q, decide (x.nm = s) = q := ⟨_, rfl⟩
  have hq2 : (x.nm.toList == s.toList) = q := by rw [← hq]; exact str_eq _ _
  show Calls _ _ _ _ fun e W' => e = .returned (.bool (decide (x.nm = s))) ∧ _
  rw [hq]
  clear hs hg
  go_enter Tryz.func154, Tryz.ntmps154
  go_wp2
  go_ret
  exact ⟨rfl, HB.out⟩
theorem Tryz.egCloC : ∀ args w, (callFunc 156 args).run Tryz.prog w = .ok (.enter 156 args) w := enters_of Tryz.func156 (by kernel_rfl) rfl
set_option maxHeartbeats 1600000 in
theorem cloC_any (s : ByteArray) (g : Nat) (w0 : World) (hs : w0.cell? ⟨g, 0, none⟩ = some (.string s)) :
    TellsA Tryz.prog 156 #[.pointer (some ⟨g, 0, none⟩)] C4.agg (fun t => decide (t.nm = s)) w0 := by
  intro W hW x
  have B1 := below_new hW (colBox x)
  have hg := heap_alloc_new W (colBox x)
  have hc := col_row hg
  obtain ⟨c0, _⟩ := hc
  have d0 := (B1.cell (p := ⟨g, 0, none⟩) (block_lt_of_cell hs)).trans hs
  have HB := Lib.hid (below_new (Below.refl W.heap.size W) (colBox x))
  obtain ⟨q, hq⟩ : ∃ q, decide (x.nm = s) = q := ⟨_, rfl⟩
  have hq2 : (x.nm.toList == s.toList) = q := by rw [← hq]; exact str_eq _ _
  show Calls _ _ _ _ fun e W' => e = .returned (.bool (decide (x.nm = s))) ∧ _
  rw [hq]
  clear hs hg
  go_enter Tryz.func156, Tryz.ntmps156
  go_wp2
  go_ret
  exact ⟨rfl, HB.out⟩
theorem Tryz.egCloF : ∀ args w, (callFunc 125 args).run Tryz.prog w = .ok (.enter 125 args) w := enters_of Tryz.func125 (by kernel_rfl) rfl
set_option maxHeartbeats 1600000 in
theorem cloF_any (s : F3) (g : Nat) (w0 : World) (hs : w0.heap[g]? = some (sumBox s)) :
    TellsA Tryz.prog 125 #[.pointer (some ⟨g, 0, none⟩)] F3.agg (fun x => decide (x.a = s.a) && decide (x.b = s.b)) w0 := by
  intro W hW x
  have B1 := below_new hW (sumBox x)
  have hg := heap_alloc_new W (sumBox x)
  obtain ⟨c0, c1, c2⟩ := f3_row hg
  obtain ⟨d0, d1, d2⟩ := f3_row (row_below hs B1)
  have HB := Lib.hid (below_new (Below.refl W.heap.size W) (sumBox x))
  obtain ⟨q, hq⟩ : ∃ q, decide (x.a = s.a) = q := ⟨_, rfl⟩
  have hq2 : (x.a == s.a) = q := by rw [← hq]; by_cases h : x.a = s.a <;> simp [h]
  obtain ⟨r, hr⟩ : ∃ r, decide (x.b = s.b) = r := ⟨_, rfl⟩
  have hr2 : (x.b == s.b) = r := by rw [← hr]; by_cases h : x.b = s.b <;> simp [h]
  show Calls _ _ _ _ fun e W' => e = .returned (.bool (decide (x.a = s.a) && decide (x.b = s.b))) ∧ _
  rw [hq, hr]
  clear hs hg
  go_enter Tryz.func125, Tryz.ntmps125
  cases q with
  | true =>
    rw [Bool.true_and]
    go_wp2
    go_ret
    exact ⟨rfl, HB.out⟩
  | false =>
    rw [Bool.false_and]
    go_wp2
    go_ret
    exact ⟨rfl, HB.out⟩
set_option maxHeartbeats 1600000 in
theorem contains_any (g : Nat) (cb : Array Value) (p : F3 → Bool) (A : Option Addr) (n c : Nat) (l : List F3) (w : World) (eg : ∀ args w, (callFunc g args).run Tryz.prog w = .ok (.enter g args) w)
    (h : RdF w A n c l) (hp : TellsA Tryz.prog g cb F3.agg p w) :
    Calls Tryz.prog 126 #[.slice A n c, .func (.func g) #[] cb] w fun e w' => e = .returned (.bool (l.any p)) ∧ Below w.heap.size w w' := by
  have C := Lib.hid (indexF_any g cb p A n c l w eg h hp)
  obtain ⟨q, hq⟩ : ∃ q, Hid (l.any p = q) := ⟨_, rfl⟩
  have HQ : Hid ((findP p l).isSome = q) := by show _ = _; rw [← hq.out]; exact findP_any p l
  rw [hq.out]
  go_enter Tryz.func126, Tryz.ntmps126
  go_wp2_with fail
  refine C.out.mono ?_
  rintro e w2 ⟨rfl, b2⟩
  have HB := Lib.hid b2
  clear C b2 hq h hp
  cases hf : findP p l with
  | none =>
    rw [hf] at HQ
    have e1 : q = false := HQ.out.symm
    subst e1
    rw [show placeE none = -1 from rfl]
    clear HQ hf
    go_wp2_with fail
    go_ret
    exact ⟨rfl, HB.out⟩
  | some k =>
    rw [hf] at HQ
    have e1 : q = true := HQ.out.symm
    subst e1
    rw [show placeE (some k) = (k : Int) from rfl]
    clear HQ hf
    have h1 : (0 : Int) ≤ (k : Int) := by omega
    go_wp2_with fail
    go_ret
    exact ⟨rfl, HB.out⟩
theorem place_lt {α : Type} {p : α → Bool} {l : List α} {n : Nat} (hn : l.length = n) : ∀ k, findP p l = some k → k < n := fun k h => by rw [← hn]; exact findP_lt h
set_option maxHeartbeats 1600000 in
theorem table_any (A : Option Addr) (n c : Nat) (l : List T6) (s : ByteArray) (w : World) (h : RdS11 w A n c l) :
    Calls Tryz.prog 118 #[.agg #[.slice A n c], .string s] w fun e w' => e = .returned (.tuple #[.int .i64 (at0 (tableP l s)), .bool (tableP l s).isSome]) ∧ Below w.heap.size w w' := by
  have hle := h.le
  obtain ⟨w1, hw1⟩ : ∃ w1, w1 = (w.alloc (schBox A n c)).alloc (.cells #[.string s] 9) := ⟨_, rfl⟩
  have HW1 := Lib.hid hw1
  have hb1 : Hid (Below w.heap.size w w1) := by rw [hw1]; exact below_new (below_new (Below.refl _ _) _) _
  have r0 : w1.heap[w.heap.size]? = some (schBox A n c) := by rw [hw1, Below.heap_alloc _ _ _ (by simp)]; exact heap_alloc_new _ _
  have r1 : w1.heap[w.heap.size + 1]? = some (.cells #[.string s] 9) := by
    rw [hw1]
    have := heap_alloc_new (w.alloc (schBox A n c)) (.cells #[.string s] 9)
    rwa [World.size_alloc] at this
  have c0 := sch_row r0
  have C := Lib.hid (indexT_any 154 #[.pointer (some ⟨w.heap.size + 1, 0, none⟩)] (fun t => decide (t.nm = s)) A n c l w1 Tryz.egCloT (h.below hb1.out) (cloT_any s (w.heap.size + 1) w1 (str_row r1)))
  obtain ⟨o, ho, hlt⟩ : ∃ o, Hid (findP (fun t : T6 => decide (t.nm = s)) l = o) ∧ Hid (∀ k, o = some k → k < n) := ⟨_, rfl, fun k hk => place_lt h.len k hk⟩
  rw [show tableP l s = o from ho.out]
  rw [ho.out] at C
  have C2 : Hid (∀ W, Calls Tryz.prog 152 #[.int .i64 (placeE o)] W fun e w' => e = .returned (.tuple #[.int .i64 (at0 o), .bool o.isSome]) ∧ Below W.heap.size W w') := fun W => found_any o n hlt.out W
  generalize placeE o = z at C C2
  generalize at0 o = z0 at C2 ⊢
  generalize o.isSome = q0 at C2 ⊢
  clear hw1 r0 r1 h ho hlt
  go_enter Tryz.func118, Tryz.ntmps118
  go_upto_region 1 with fail
  rw [show (w.alloc (schBox A n c)).alloc (.cells #[.string s] 9) = w1 from HW1.out.symm]
  clear HW1
  go_wp2_with fail
  refine C.out.mono ?_
  rintro e w2 ⟨rfl, b2⟩
  have HB2 := Lib.hid (below_then hb1.out b2)
  clear C b2 c0
  go_wp2_with fail
  refine (C2.out w2).mono ?_
  rintro e w3 ⟨rfl, b3⟩
  have HB3 := Lib.hid (below_then HB2.out b3)
  clear C2 b3
  go_wp2_with fail
  go_ret2
  exact ⟨rfl, HB3.out⟩
set_option maxHeartbeats 1600000 in
theorem column_any (t : T6) (s : ByteArray) (w : World) (h : RdC w t.ca t.nc t.cc t.cols) :
    Calls Tryz.prog 119 #[t.agg, .string s] w fun e w' => e = .returned (.tuple #[.int .i64 (at0 (columnP t.cols s)), .bool (columnP t.cols s).isSome]) ∧ Below w.heap.size w w' := by
  have hle := h.le
  obtain ⟨w1, hw1⟩ : ∃ w1, w1 = (w.alloc (tabBox t)).alloc (.cells #[.string s] 9) := ⟨_, rfl⟩
  have HW1 := Lib.hid hw1
  have hb1 : Hid (Below w.heap.size w w1) := by rw [hw1]; exact below_new (below_new (Below.refl _ _) _) _
  have r0 : w1.heap[w.heap.size]? = some (tabBox t) := by rw [hw1, Below.heap_alloc _ _ _ (by simp)]; exact heap_alloc_new _ _
  have r1 : w1.heap[w.heap.size + 1]? = some (.cells #[.string s] 9) := by
    rw [hw1]
    have := heap_alloc_new (w.alloc (tabBox t)) (.cells #[.string s] 9)
    rwa [World.size_alloc] at this
  obtain ⟨c0, c1, c2, c3, c4, c5⟩ := tab_row r0
  have C := Lib.hid (indexC_any 156 #[.pointer (some ⟨w.heap.size + 1, 0, none⟩)] (fun t => decide (t.nm = s)) t.ca t.nc t.cc t.cols w1 Tryz.egCloC (h.below hb1.out) (cloC_any s (w.heap.size + 1) w1 (str_row r1)))
  obtain ⟨o, ho, hlt⟩ : ∃ o, Hid (findP (fun t : C4 => decide (t.nm = s)) t.cols = o) ∧ Hid (∀ k, o = some k → k < t.nc) := ⟨_, rfl, fun k hk => place_lt h.len k hk⟩
  rw [show columnP t.cols s = o from ho.out]
  rw [ho.out] at C
  have C2 : Hid (∀ W, Calls Tryz.prog 152 #[.int .i64 (placeE o)] W fun e w' => e = .returned (.tuple #[.int .i64 (at0 o), .bool o.isSome]) ∧ Below W.heap.size W w') := fun W => found_any o t.nc hlt.out W
  generalize placeE o = z at C C2
  generalize at0 o = z0 at C2 ⊢
  generalize o.isSome = q0 at C2 ⊢
  clear hw1 r0 r1 h ho hlt
  go_enter Tryz.func119, Tryz.ntmps119
  go_upto_region 1 with fail
  rw [show (w.alloc (tabBox t)).alloc (.cells #[.string s] 9) = w1 from HW1.out.symm]
  clear HW1
  go_wp2_with fail
  refine C.out.mono ?_
  rintro e w2 ⟨rfl, b2⟩
  have HB2 := Lib.hid (below_then hb1.out b2)
  clear C b2 c0 c1 c2 c3 c4 c5
  go_wp2_with fail
  refine (C2.out w2).mono ?_
  rintro e w3 ⟨rfl, b3⟩
  have HB3 := Lib.hid (below_then HB2.out b3)
  clear C2 b3
  go_wp2_with fail
  go_ret2
  exact ⟨rfl, HB3.out⟩
end Go.Proofs.YtfljhnalmiibeaaGreat

