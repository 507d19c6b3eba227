/- Layer 3: are there so few values that all this ends soon? -/
import Derived.Test.YtijhcoidhlmecaaRowMem
import Derived.Test.YtijhcoidhlmecaaRowRight
import Derived.BigQuiet
namespace Go.Proofs.Ytijhcoidhlmecaa
set_option maxRecDepth 100000
open Go.RowKit

/-- a row that lies somewhere -/
structure R4 where
  A : Option Addr
  n : Nat
  c : Nat
  l : List V3
abbrev R4.v (r : R4) : Value := .slice r.A r.n r.c
def shortZ (l : List V3) : Bool := l.all fun v => decide (v.s.size ≤ 400)
def fewZ (rs : List R4) : Bool := rs.all fun r => decide (r.l.length ≤ 60) && shortZ r.l
theorem fewZ_cons (r : R4) (rs : List R4) : fewZ (r :: rs) = ((decide (r.l.length ≤ 60) && shortZ r.l) && fewZ rs) := rfl

set_option maxHeartbeats 1600000 in
theorem few_any (A : Option Addr) (n c : Nat) (rs : List R4) (w : World) (hrd : Rd w A n c (rs.map R4.v)) (hr : ∀ r ∈ rs, RdV w r.A r.n r.c r.l) :
    Calls Try.prog 10 #[.slice A n c] w fun e w' => e = .returned (.bool (fewZ rs)) ∧ Below w.heap.size w w' := by
  have hle := hrd.le
  have hll : rs.length = n := by simpa using hrd.len
  have HRD := Lib.hid hrd; have HR := Lib.hid hr; have HLL := Lib.hid hll
  clear hrd hr hll
  go_enter Try.func10, Try.ntmps10
  go_wp2_with fail
  go_loopw [9] (fun i wr => ∃ k : Nat, k ≤ n ∧ i = .int .i64 k ∧ Hid (fewZ rs = fewZ (rs.drop k)) ∧ Below w.heap.size w wr) (fun i _ => n - (intOf i).toNat)
  case atStart => exact ⟨0, Nat.zero_le _, rfl, by show _ = _; simp, Below.refl _ _⟩
  case round =>
    obtain ⟨k, hk, rfl, hall, hbel⟩ := hrel
    by_cases hlt : k < n
    · obtain ⟨b, o, u, rfl, hb, hu, hcu⟩ := HRD.out.at_ hlt
      have c0 := (hbel.cell hb).trans hcu
      obtain ⟨r, hr0, rfl⟩ : ∃ r, rs[k]? = some r ∧ u = r.v := by
        rw [List.getElem?_map, Option.map_eq_some_iff] at hu
        obtain ⟨r, h1, h2⟩ := hu
        exact ⟨r, h1, h2.symm⟩
      have hrr := HR.out r (List.mem_of_getElem? hr0)
      obtain ⟨B, m, d, l⟩ := r
      simp only [] at hrr
      replace c0 : wr.cell? ⟨b, o + k, none⟩ = some (.slice B m d) := c0
      have hlm := hrr.len; have hlem := hrr.le
      have hnext : Hid (fewZ rs = ((decide (m ≤ 60) && shortZ l) && fewZ (rs.drop (k + 1)))) := by
        show _ = _
        rw [hall.out, drop_at hr0, fewZ_cons, hlm]
      have HRR := Lib.hid hrr; have HLM := Lib.hid hlm
      clear hu hcu hr0 hrr hlm hall
      by_cases h60 : m ≤ 60
      · have h60i : ¬ (60 : Int) < m := by omega
        have hn2 : Hid (fewZ rs = (shortZ l && fewZ (rs.drop (k + 1)))) := by show _ = _; rw [hnext.out]; simp [h60]
        clear hnext
        go_wp2_with fail
        go_loopw [18] (fun i wr' => ∃ j : Nat, j ≤ m ∧ i = .int .i64 j ∧ Hid (fewZ rs = (shortZ (l.drop j) && fewZ (rs.drop (k + 1)))) ∧ Below w.heap.size w wr') (fun i _ => m - (intOf i).toNat)
        case atStart => exact ⟨0, Nat.zero_le _, rfl, by show _ = _; rw [hn2.out]; simp, hbel⟩
        case round =>
          obtain ⟨j, hj, rfl, hall, hbel2⟩ := hrel
          clear c0 hbel
          by_cases hlt2 : j < m
          · obtain ⟨b2, o2, x, rfl, hb2, hx, hld⟩ := HRR.out.val hlt2
            obtain ⟨c0, c1, c2⟩ := hld _ hbel2
            have B2 := below_new hbel2 (.cells #[.int .i64 x.k, .int .i64 x.n, .string x.s] 44)
            have hn3 : Hid (fewZ rs = ((decide (x.s.size ≤ 400) && shortZ (l.drop (j + 1))) && fewZ (rs.drop (k + 1)))) := by
              show _ = _
              rw [hall.out, drop_at hx]; rfl
            clear hx hld hall
            by_cases h400 : x.s.size ≤ 400
            · have h400i : ¬ (400 : Int) < x.s.size := by omega
              go_wp2
              exact ⟨⟨j + 1, by omega, by go_num, by show _ = _; rw [hn3.out]; simp [h400], B2⟩, by simp [intOf]; omega⟩
            · have h400i : (400 : Int) < x.s.size := by omega
              have hN := Lib.hid (show fewZ rs = false by rw [hn3.out]; simp [h400])
              go_wp2
              go_ret
              exact ⟨ret_bool hN.out.symm, B2⟩
          · have hn3 : Hid (fewZ rs = fewZ (rs.drop (k + 1))) := by
              show _ = _
              rw [hall.out, List.drop_of_length_le (by rw [HLM.out]; omega)]; rfl
            go_wp2
            exact ⟨⟨k + 1, by omega, by go_num, hn3, hbel2⟩, by simp [intOf]; omega⟩
      · have h60i : (60 : Int) < m := by omega
        have hN := Lib.hid (show fewZ rs = false by rw [hnext.out]; simp [h60])
        go_wp2
        go_ret
        exact ⟨ret_bool hN.out.symm, hbel⟩
    · have hN : Hid (fewZ rs = true) := by
        show _ = _
        rw [hall.out, List.drop_of_length_le (by rw [HLL.out]; omega)]; rfl
      go_wp2
      go_ret
      exact ⟨ret_bool hN.out.symm, hbel⟩
end Go.Proofs.Ytijhcoidhlmecaa
