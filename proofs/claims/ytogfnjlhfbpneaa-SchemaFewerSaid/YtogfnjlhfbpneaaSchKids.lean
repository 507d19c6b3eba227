/- Layer 11: Kids, the code's and the document's; Few. Written by schkids.py. -/
import Derived.Test.YtogfnjlhfbpneaaSchFk
namespace Go.Proofs.Ytogfnjlhfbpneaa
set_option maxRecDepth 100000
open Go.RowKit

def pairC (x : Int × Int) : List Value := [.int .i64 x.1, .int .i64 x.2]
theorem pairLen (x : Int × Int) : (pairC x).length = 2 := rfl
abbrev RdK (w : World) (A : Option Addr) (n c : Nat) (l : List (Int × Int)) : Prop := RdG pairC 2 w A n c l
abbrev pairBox (x : Int × Int) : Obj := .cells #[.int .i64 x.1, .int .i64 x.2] 30
theorem Try.infoPair : (Try.prog.info? 30).map (fun i => (i.zero, i.size, i.bytes)) = some (some (.agg #[.int .i64 0, .int .i64 0]), 2, 16) := by kernel_rfl
theorem wpList_pushK {w W0 : World} {ops : Array Oper} {rest : List Oper} {o : Oper} {a : Act} {Q : Exit → Act → World → Prop} (hgd : o.guard = none) (s x : Operand)
    (ho : o.op = .call { callee := .builtin .append, args := #[s, x], argTypes := #[45, 45] })
    (base : Nat) (v : Value) (n : Nat) (l : List (Int × Int)) (u : Int × Int) (g : Nat) (hg : w.heap.size = g) (hx : a.eval x = .slice (some ⟨g, 0, none⟩) 1 1)
    (hs : a.eval s = v) (hown : w.ownsRow base 30 2 v n (l.flatMap pairC)) (hn : n < 4294967296)
    (hbel : Below base W0 w) (hbase : base ≤ w.heap.size)
    (h : ∀ v' w', w'.ownsRow base 30 2 v' (n + 1) ((l ++ [u]).flatMap pairC) → Below base W0 w' → base ≤ w'.heap.size → wpList Try.prog ops Q rest (a.put o.dst v') w') :
    wpList Try.prog ops Q (o :: rest) a (w.alloc (pairBox u)) := by
  subst hg
  obtain ⟨i0, hi0, hz0, hz1, hz2⟩ := info_parts Try.infoPair
  refine wpList_append_own _ hgd s x 45 ho base 30 i0 _ 2 16 Try.underlying45 hi0 hz0 hz1 hz2 rfl (by omega) v n (l.flatMap pairC) hs (hown.alloc _) ⟨w.heap.size, 0, none⟩ 1 1 (pairC u) hx rfl ?_
    (by intro y hy; simp [pairC] at hy; rcases hy with rfl | rfl <;> rfl) (by simp only [maxLen]; omega) (by omega) (by simp; omega) ?_
  · intro j y hj
    rw [Addr.add_lit, Nat.zero_add, cell_row (heap_alloc_new w _)]
    simpa [pairC] using hj
  intro v' w' hown' hgrow _
  refine h v' w' ?_ ?_ (by have := hgrow.size; simp at this; omega)
  · rw [List.flatMap_append]
    simpa using hown'
  · exact (hbel.alloc hbase _).grown hgrow (by simp; omega) (fun k hk => (hown.lt k hk).1)

theorem sdrop_at {α : Type} {l : List α} {k : Nat} {x : α} (h : l[k]? = some x) : l.drop k = x :: l.drop (k + 1) := by
  obtain ⟨h1, h2⟩ := List.getElem?_eq_some_iff.1 h
  rw [List.drop_eq_getElem_cons h1, h2]
theorem kidsRow_hit {l : List F3} {k i : Nat} {z : Int} {x : F3} (h : l[k]? = some x) (hb : x.b = z) : kidsRow i z k (l.drop k) = ((i : Int), (k : Int)) :: kidsRow i z (k + 1) (l.drop (k + 1)) := by
  rw [sdrop_at h, kidsRow, if_pos hb]
theorem kidsRow_miss {l : List F3} {k i : Nat} {z : Int} {x : F3} (h : l[k]? = some x) (hb : ¬ x.b = z) : kidsRow i z k (l.drop k) = kidsRow i z (k + 1) (l.drop (k + 1)) := by
  rw [sdrop_at h, kidsRow, if_neg hb]
theorem kidsRow_end {l : List F3} {n i : Nat} {z : Int} (h : l.length = n) : kidsRow i z n (l.drop n) = [] := by
  rw [List.drop_of_length_le (by omega)]; rfl
theorem kidsAt_next {l : List T6} {i : Nat} {z : Int} {t : T6} (h : l[i]? = some t) : kidsAt z i (l.drop i) = kidsRow i z 0 (t.fks.drop 0) ++ kidsAt z (i + 1) (l.drop (i + 1)) := by
  rw [sdrop_at h, kidsAt]; rfl
theorem kidsAt_end {l : List T6} {n : Nat} {z : Int} (h : l.length = n) : kidsAt z n (l.drop n) = [] := by
  rw [List.drop_of_length_le (by omega)]; rfl

set_option maxHeartbeats 3200000 in
theorem kids_any (A : Option Addr) (n c : Nat) (l : List T6) (z : Int) (w : World) (h : RdS w A n c l) (hk : (kidsL l z).length < 4294967296) :
    Calls Try.prog 22 #[.agg #[.slice A n c], .int .i64 z] w fun e w' => ∃ A' m c', e = .returned (.slice A' m c') ∧ RdK w' A' m c' (kidsL l z) ∧ Below w.heap.size w w' := by
  have hle := h.le
  have HL := Lib.hid h.len
  obtain ⟨w1, hw1⟩ : ∃ w1, w1 = w.alloc (schBox A n c) := ⟨_, rfl⟩
  have HW1 := Lib.hid hw1
  have HB1 : Hid (Below w.heap.size w w1) := by rw [hw1]; exact below_new (Below.refl _ _) _
  have r0 : Hid (w1.heap[w.heap.size]? = some (schBox A n c)) := by rw [hw1]; exact heap_alloc_new _ _
  have HR := Lib.hid (h.below HB1.out)
  obtain ⟨K, hK⟩ : ∃ K, Hid (kidsL l z = K) := ⟨_, rfl⟩
  rw [hK.out]
  rw [hK.out] at hk
  have HN := Lib.hid hk
  have c0 := sch_row r0.out
  clear hw1 h hk
  go_enter Try.func22, Try.ntmps22
  go_upto_region 1 with fail
  rw [show w.alloc (schBox A n c) = w1 from HW1.out.symm]
  clear HW1
  go_wp2_with fail
  clear c0
  go_loopw [5, 13] (fun v i wr => ∃ (k : Nat) (done : List (Int × Int)), k ≤ n ∧ i = .int .i64 k ∧ Hid (K = done ++ kidsAt z k (l.drop k)) ∧ Hid (wr.ownsRow w1.heap.size 30 2 v done.length (done.flatMap pairC)) ∧ Hid (Below w1.heap.size w1 wr)) (fun _ i _ => n - (intOf i).toNat)
  case atStart => exact ⟨0, [], Nat.zero_le _, rfl, by show _ = _; rw [← hK.out]; rfl, by show World.ownsRow _ _ _ _ _ _ _; simpa using World.ownsRow_nil _ _ _ _, Below.refl _ _⟩
  case round =>
    obtain ⟨k, done, hk, rfl, hD, HO, KB⟩ := hrel
    by_cases hlt : k < n
    · obtain ⟨b, o', t, rfl, hb, hx, hxr, hld⟩ := HR.out.tab hlt
      obtain ⟨d0, d1, d2, d3, d4, d5⟩ := hld wr KB.out
      have y1 : (k : Int) < (n : Int) := by omega
      have y0 : (0 : Int) ≤ (k : Int) := by omega
      have HF := Lib.hid hxr.fks
      have HFL := Lib.hid hxr.fks.len
      have hnf := hxr.fks.le
      have hD2 : Hid (K = done ++ (kidsRow k z 0 (t.fks.drop 0) ++ kidsAt z (k + 1) (l.drop (k + 1)))) := by show _ = _; rw [hD.out, kidsAt_next hx]
      obtain ⟨w2, hw2⟩ : ∃ w2, w2 = wr.alloc (tabBox t) := ⟨_, rfl⟩
      have HW2 := Lib.hid hw2
      have KB2 : Hid (Below w1.heap.size w1 w2) := by rw [hw2]; exact below_new KB.out _
      have r2 : w2.heap[wr.heap.size]? = some (tabBox t) := by rw [hw2]; exact heap_alloc_new _ _
      have HO2 : Hid (w2.ownsRow w1.heap.size 30 2 u5 done.length (done.flatMap pairC)) := by rw [hw2]; exact HO.out.alloc _
      obtain ⟨e0, e1, e2, e3, e4, e5⟩ := tab_row r2
      clear hw2 r2 hld hb hx hxr HO KB hD
      go_upto_region 5 with fail
      rw [show wr.alloc (tabBox t) = w2 from HW2.out.symm]
      clear HW2 d0 d1 d2 d3 d4 d5
      go_wp2_with fail
      clear e0 e1 e2 e3 e4 e5
      go_loopw [5, 21] (fun v i wq => ∃ (j : Nat) (dn : List (Int × Int)), j ≤ t.nf ∧ i = .int .i64 j ∧ Hid (K = dn ++ (kidsRow k z j (t.fks.drop j) ++ kidsAt z (k + 1) (l.drop (k + 1)))) ∧ Hid (wq.ownsRow w1.heap.size 30 2 v dn.length (dn.flatMap pairC)) ∧ Hid (Below w1.heap.size w1 wq)) (fun _ i _ => t.nf - (intOf i).toNat)
      case atStart => exact ⟨0, done, Nat.zero_le _, rfl, hD2, HO2, KB2⟩
      case round =>
        clear hD2 HO2 KB2
        obtain ⟨j, dn, hj, rfl, hD, HO, KB⟩ := hrel
        by_cases hjt : j < t.nf
        · obtain ⟨b2, o2, x, ea, hb, hx, hld⟩ := HF.out.f3 hjt
          obtain ⟨f0, f1, f2⟩ := hld wr KB.out
          rw [ea]
          have y3 : (j : Int) < (t.nf : Int) := by omega
          have y2 : (0 : Int) ≤ (j : Int) := by omega
          have HSZ := Lib.hid KB.out.size
          obtain ⟨w3, hw3⟩ : ∃ w3, w3 = wr.alloc (fkBox x) := ⟨_, rfl⟩
          have HW3 := Lib.hid hw3
          have KB3 : Hid (Below w1.heap.size w1 w3) := by rw [hw3]; exact below_new KB.out _
          have r3 : w3.heap[wr.heap.size]? = some (fkBox x) := by rw [hw3]; exact heap_alloc_new _ _
          have HO3 : Hid (w3.ownsRow w1.heap.size 30 2 u5 dn.length (dn.flatMap pairC)) := by rw [hw3]; exact HO.out.alloc _
          obtain ⟨g0, g1, g2⟩ := f3_row r3
          have HX := Lib.hid hx
          clear hw3 r3 hld hb hx ea HO KB
          go_upto_region 8 with fail
          rw [show wr.alloc (fkBox x) = w3 from HW3.out.symm]
          clear HW3 f0 f1 f2
          by_cases hz : x.b = z
          · have q1 : (x.b == z) = true := by simpa using hz
            have hD3 : Hid (K = (dn ++ [((k : Int), (j : Int))]) ++ (kidsRow k z (j + 1) (t.fks.drop (j + 1)) ++ kidsAt z (k + 1) (l.drop (k + 1)))) := by show _ = _; rw [hD.out, kidsRow_hit HX.out hz]; simp
            have hdl : dn.length < 4294967296 := by
              have h1 := HN.out
              rw [hD.out] at h1
              simp only [List.length_append] at h1
              omega
            obtain ⟨m, hm⟩ : ∃ m, Hid (dn.length = m) := ⟨_, rfl⟩
            rw [hm.out] at HO3 hdl
            have hb3 := KB3.out
            have hs3 := KB3.out.size
            clear hz hD
            go_wp2_with (at_builtin; refine wpList_pushK rfl (.tmp 30) (.tmp 34) rfl w1.heap.size _ m dn ((k : Int), (j : Int)) _ rfl rfl rfl HO3.out hdl hb3 hs3 ?_; intro v4 w4 hown4 hbel4 hsz4)
            have HO4 : Hid (w4.ownsRow w1.heap.size 30 2 v4 (dn ++ [((k : Int), (j : Int))]).length ((dn ++ [((k : Int), (j : Int))]).flatMap pairC)) := by
              have e : (dn ++ [((k : Int), (j : Int))]).length = m + 1 := by rw [List.length_append, hm.out]; rfl
              rw [e]; exact hown4
            exact ⟨⟨j + 1, _, by omega, by go_num, hD3, HO4, hbel4⟩, by simp [intOf]; omega⟩
          · have q1 : (x.b == z) = false := by simpa using hz
            have hD3 : Hid (K = dn ++ (kidsRow k z (j + 1) (t.fks.drop (j + 1)) ++ kidsAt z (k + 1) (l.drop (k + 1)))) := by show _ = _; rw [hD.out, kidsRow_miss HX.out hz]
            clear hz hD
            go_wp2_with fail
            exact ⟨⟨j + 1, dn, by omega, by go_num, hD3, HO3, KB3⟩, by simp [intOf]; omega⟩
        · obtain rfl : j = t.nf := by omega
          have y3 : ¬ (t.nf : Int) < (t.nf : Int) := by omega
          have hD3 : Hid (K = dn ++ kidsAt z (k + 1) (l.drop (k + 1))) := by show _ = _; rw [hD.out, kidsRow_end HFL.out]; rfl
          go_wp2_with fail
          exact ⟨⟨k + 1, dn, by omega, by go_num, hD3, HO, KB⟩, by simp [intOf]; omega⟩
    · obtain rfl : k = n := by omega
      have hD3 : Hid (done = K) := by show _ = _; rw [hD.out, kidsAt_end HL.out, List.append_nil]
      rw [hD3.out] at HO
      obtain ⟨A2, c2, rfl, hrd⟩ := RdG.own_ pairLen (by omega) HO.out
      have HRD := Lib.hid hrd
      have y1 : ¬ (k : Int) < (k : Int) := by omega
      have HBf := Lib.hid (below_then HB1.out KB.out)

      clear hrd HO hD
      go_wp2_with fail
      go_ret
      exact ⟨_, _, _, rfl, HRD.out, HBf.out⟩

set_option maxHeartbeats 3200000 in
theorem refKids_any (A : Option Addr) (n c : Nat) (l : List T6) (z : Int) (w : World) (h : RdS w A n c l) (hk : (kidsL l z).length < 4294967296) :
    Calls Try.prog 23 #[.agg #[.slice A n c], .int .i64 z] w fun e w' => ∃ A' m c', e = .returned (.slice A' m c') ∧ RdK w' A' m c' (kidsL l z) ∧ Below w.heap.size w w' := by
  have hle := h.le
  have HL := Lib.hid h.len
  obtain ⟨w1, hw1⟩ : ∃ w1, w1 = w.alloc (schBox A n c) := ⟨_, rfl⟩
  have HW1 := Lib.hid hw1
  have HB1 : Hid (Below w.heap.size w w1) := by rw [hw1]; exact below_new (Below.refl _ _) _
  have r0 : Hid (w1.heap[w.heap.size]? = some (schBox A n c)) := by rw [hw1]; exact heap_alloc_new _ _
  have HR := Lib.hid (h.below HB1.out)
  obtain ⟨K, hK⟩ : ∃ K, Hid (kidsL l z = K) := ⟨_, rfl⟩
  rw [hK.out]
  rw [hK.out] at hk
  have HN := Lib.hid hk
  have c0 := sch_row r0.out
  clear hw1 h hk
  go_enter Try.func23, Try.ntmps23
  go_upto_region 1 with fail
  rw [show w.alloc (schBox A n c) = w1 from HW1.out.symm]
  clear HW1
  go_wp2_with fail
  clear c0
  go_loopw [5, 6] (fun v i wr => ∃ (k : Nat) (done : List (Int × Int)), k ≤ n ∧ i = .int .i64 k ∧ Hid (K = done ++ kidsAt z k (l.drop k)) ∧ Hid (wr.ownsRow w1.heap.size 30 2 v done.length (done.flatMap pairC)) ∧ Hid (Below w1.heap.size w1 wr)) (fun _ i _ => n - (intOf i).toNat)
  case atStart => exact ⟨0, [], Nat.zero_le _, rfl, by show _ = _; rw [← hK.out]; rfl, by show World.ownsRow _ _ _ _ _ _ _; simpa using World.ownsRow_nil _ _ _ _, Below.refl _ _⟩
  case round =>
    obtain ⟨k, done, hk, rfl, hD, HO, KB⟩ := hrel
    by_cases hlt : k < n
    · obtain ⟨b, o', t, rfl, hb, hx, hxr, hld⟩ := HR.out.tab hlt
      obtain ⟨d0, d1, d2, d3, d4, d5⟩ := hld wr KB.out
      have y1 : (k : Int) < (n : Int) := by omega
      have y0 : (0 : Int) ≤ (k : Int) := by omega
      have HF := Lib.hid hxr.fks
      have HFL := Lib.hid hxr.fks.len
      have hnf := hxr.fks.le
      have hD2 : Hid (K = done ++ (kidsRow k z 0 (t.fks.drop 0) ++ kidsAt z (k + 1) (l.drop (k + 1)))) := by show _ = _; rw [hD.out, kidsAt_next hx]
      have HLD := Lib.hid hld
      have KB2 := KB
      have HO2 := HO
      have c0 : wr.cell? ⟨w.heap.size, 0, none⟩ = some (.slice (some ⟨b, o', none⟩) n c) := (KB.out.cell (p := ⟨w.heap.size, 0, none⟩) (block_lt_of_cell (sch_row r0.out))).trans (sch_row r0.out)
      clear hld hb hx hxr HO KB hD d0 d1 d2 d3 d4 d5
      go_wp2_with fail
      clear c0
      go_loopw [5, 7] (fun v i wq => ∃ (j : Nat) (dn : List (Int × Int)), j ≤ t.nf ∧ i = .int .i64 j ∧ Hid (K = dn ++ (kidsRow k z j (t.fks.drop j) ++ kidsAt z (k + 1) (l.drop (k + 1)))) ∧ Hid (wq.ownsRow w1.heap.size 30 2 v dn.length (dn.flatMap pairC)) ∧ Hid (Below w1.heap.size w1 wq)) (fun _ i _ => t.nf - (intOf i).toNat)
      case atStart => exact ⟨0, done, Nat.zero_le _, rfl, hD2, HO2, KB2⟩
      case round =>
        clear hD2 HO2 KB2
        obtain ⟨j, dn, hj, rfl, hD, HO, KB⟩ := hrel
        have c0 : wr.cell? ⟨w.heap.size, 0, none⟩ = some (.slice (some ⟨b, o', none⟩) n c) := (KB.out.cell (p := ⟨w.heap.size, 0, none⟩) (block_lt_of_cell (sch_row r0.out))).trans (sch_row r0.out)
        obtain ⟨d0, d1, d2, d3, d4, d5⟩ := HLD.out wr KB.out
        by_cases hjt : j < t.nf
        · obtain ⟨b2, o2, x, ea, hb, hx, hld⟩ := HF.out.f3 hjt
          obtain ⟨f0, f1, f2⟩ := hld wr KB.out
          rw [ea] at d4
          have y3 : (j : Int) < (t.nf : Int) := by omega
          have y2 : (0 : Int) ≤ (j : Int) := by omega
          have HSZ := Lib.hid KB.out.size
          have KB3 := KB
          have HO3 := HO
          have HX := Lib.hid hx
          clear hld hb hx ea HO KB
          by_cases hz : x.b = z
          · have q1 : (x.b == z) = true := by simpa using hz
            have hD3 : Hid (K = (dn ++ [((k : Int), (j : Int))]) ++ (kidsRow k z (j + 1) (t.fks.drop (j + 1)) ++ kidsAt z (k + 1) (l.drop (k + 1)))) := by show _ = _; rw [hD.out, kidsRow_hit HX.out hz]; simp
            have hdl : dn.length < 4294967296 := by
              have h1 := HN.out
              rw [hD.out] at h1
              simp only [List.length_append] at h1
              omega
            obtain ⟨m, hm⟩ : ∃ m, Hid (dn.length = m) := ⟨_, rfl⟩
            rw [hm.out] at HO3 hdl
            have hb3 := KB3.out
            have hs3 := KB3.out.size
            clear hz hD
            go_wp2_with (at_builtin; refine wpList_pushK rfl (.tmp 38) (.tmp 42) rfl w1.heap.size _ m dn ((k : Int), (j : Int)) _ rfl rfl rfl HO3.out hdl hb3 hs3 ?_; intro v4 w4 hown4 hbel4 hsz4)
            have HO4 : Hid (w4.ownsRow w1.heap.size 30 2 v4 (dn ++ [((k : Int), (j : Int))]).length ((dn ++ [((k : Int), (j : Int))]).flatMap pairC)) := by
              have e : (dn ++ [((k : Int), (j : Int))]).length = m + 1 := by rw [List.length_append, hm.out]; rfl
              rw [e]; exact hown4
            exact ⟨⟨j + 1, _, by omega, by go_num, hD3, HO4, hbel4⟩, by simp [intOf]; omega⟩
          · have q1 : (x.b == z) = false := by simpa using hz
            have hD3 : Hid (K = dn ++ (kidsRow k z (j + 1) (t.fks.drop (j + 1)) ++ kidsAt z (k + 1) (l.drop (k + 1)))) := by show _ = _; rw [hD.out, kidsRow_miss HX.out hz]
            clear hz hD
            go_wp2_with fail
            exact ⟨⟨j + 1, dn, by omega, by go_num, hD3, HO3, KB3⟩, by simp [intOf]; omega⟩
        · obtain rfl : j = t.nf := by omega
          have y3 : ¬ (t.nf : Int) < (t.nf : Int) := by omega
          have hD3 : Hid (K = dn ++ kidsAt z (k + 1) (l.drop (k + 1))) := by show _ = _; rw [hD.out, kidsRow_end HFL.out]; rfl
          go_wp2_with fail
          exact ⟨⟨k + 1, dn, by omega, by go_num, hD3, HO, KB⟩, by simp [intOf]; omega⟩
    · obtain rfl : k = n := by omega
      have hD3 : Hid (done = K) := by show _ = _; rw [hD.out, kidsAt_end HL.out, List.append_nil]
      rw [hD3.out] at HO
      obtain ⟨A2, c2, rfl, hrd⟩ := RdG.own_ pairLen (by omega) HO.out
      have HRD := Lib.hid hrd
      have y1 : ¬ (k : Int) < (k : Int) := by omega
      have HBf := Lib.hid (below_then HB1.out KB.out)
      have c0 : wr.cell? ⟨w.heap.size, 0, none⟩ = some (.slice A k c) := (KB.out.cell (p := ⟨w.heap.size, 0, none⟩) (block_lt_of_cell (sch_row r0.out))).trans (sch_row r0.out)
      clear hrd HO hD
      go_wp2_with fail
      go_ret
      exact ⟨_, _, _, rfl, HRD.out, HBf.out⟩
end Go.Proofs.Ytogfnjlhfbpneaa
