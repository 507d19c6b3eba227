/- Of two unlike values just one is less; what is less than what is less is less; nothing is less than any number, any number than any text: ValueTotal answers true. No condition. -/
import Derived.Test.YtkicjhphiibifaaDoorCards
import Derived.Test.YtkicjhphiibifaaDoorLaid
import Derived.Lib.SmallJoins
import Derived.Test.YtkicjhphiibifaaDoorValEq
import Derived.Test.YtkicjhphiibifaaDoorValAwake
namespace Go.Proofs.YtkicjhphiibifaaDoor.valueTotal
open Go.ChangeShapes Go.WideShapes Go.ChangeAt Go.RowKit Go.ChangeMaps
set_option maxRecDepth 100000

theorem less_irr (k n : Int) (s : ByteArray) : lessZ k n s k n s = false := by
  simp [lessZ, List.lt_irrefl]
theorem less_asym {k n k' n' : Int} {s s' : ByteArray} (h : lessZ k n s k' n' s' = true) : lessZ k' n' s' k n s = false := by
  simp only [lessZ, Bool.or_eq_true, Bool.and_eq_true, decide_eq_true_eq] at h
  rw [Bool.eq_false_iff]
  intro h2
  simp only [lessZ, Bool.or_eq_true, Bool.and_eq_true, decide_eq_true_eq] at h2
  rcases h with (h | ⟨h, h3⟩) | ⟨⟨h, h3⟩, h4⟩ <;> rcases h2 with (g | ⟨g, g3⟩) | ⟨⟨g, g3⟩, g4⟩ <;> first | omega | exact absurd g4 (List.lt_asymm h4)
theorem less_trans {k n k' n' k2 n2 : Int} {s s' s2 : ByteArray} (h : lessZ k n s k' n' s' = true) (h2 : lessZ k' n' s' k2 n2 s2 = true) : lessZ k n s k2 n2 s2 = true := by
  simp only [lessZ, Bool.or_eq_true, Bool.and_eq_true, decide_eq_true_eq] at h h2 ⊢
  rcases h with (h | ⟨h, h3⟩) | ⟨⟨h, h3⟩, h4⟩ <;> rcases h2 with (g | ⟨g, g3⟩) | ⟨⟨g, g3⟩, g4⟩
  all_goals first | (left; left; omega) | (left; right; omega) | exact .inr ⟨⟨by omega, by omega⟩, List.lt_trans h4 g4⟩
theorem less_tot {k n k' n' : Int} {s s' : ByteArray} (h : lessZ k n s k' n' s' = false) (h2 : lessZ k' n' s' k n s = false) : sameZ k n s k' n' s' = true := by
  have key : ∀ {x : Bool}, x = false → x = true → False := fun a b => by rw [a] at b; cases b
  have hk : k = k' := by
    have a : ¬ k < k' := fun e => key h (by simp [lessZ, e])
    have b : ¬ k' < k := fun e => key h2 (by simp [lessZ, e])
    omega
  subst hk
  have hn : n = n' := by
    have a : ¬ n < n' := fun e => key h (by simp [lessZ, e])
    have b : ¬ n' < n := fun e => key h2 (by simp [lessZ, e])
    omega
  subst hn
  have hs : s = s' := by
    have a : ¬ s.data.toList < s'.data.toList := fun e => key h (by simp only [lessZ]; simp [e])
    have b : ¬ s'.data.toList < s.data.toList := fun e => key h2 (by simp only [lessZ]; simp [e])
    exact ByteArray.ext (Array.toList_inj.1 (List.le_antisymm (List.not_lt.1 b) (List.not_lt.1 a)))
  subst hs
  simp [sameZ]
theorem less_diff {k n k' n' : Int} {s s' : ByteArray} (h : lessZ k n s k' n' s' = true) : sameZ k n s k' n' s' = false := by
  rw [Bool.eq_false_iff]
  intro e
  simp only [sameZ, Bool.and_eq_true, decide_eq_true_eq] at e
  obtain ⟨⟨rfl, rfl⟩, rfl⟩ := e
  rw [less_irr] at h; cases h
theorem same_comm {k n k' n' : Int} {s s' : ByteArray} (h : sameZ k' n' s' k n s = false) : sameZ k n s k' n' s' = false := by
  rw [Bool.eq_false_iff] at h ⊢
  intro e
  apply h
  simp only [sameZ, Bool.and_eq_true, decide_eq_true_eq] at e ⊢
  exact ⟨⟨e.1.1.symm, e.1.2.symm⟩, e.2.symm⟩
theorem less_kind {k n k' n' : Int} {s s' : ByteArray} (h : k < k') : lessZ k n s k' n' s' = true := by simp [lessZ, h]

theorem row_drew {w : World} {g : Nat} {o : Obj} (h : w.heap[g]? = some o) : w.drew.heap[g]? = some o := h

set_option maxHeartbeats 25600000 in
theorem walk (ka na kb nb kc nc : Int) (sa sb sc : ByteArray) (w : World) (hv : Vars w) :
    Calls Tryd.prog 6 #[.agg #[.int .i64 ka, .int .i64 na, .string sa], .agg #[.int .i64 kb, .int .i64 nb, .string sb], .agg #[.int .i64 kc, .int .i64 nc, .string sc]] w fun e w' => e = .returned (.bool true) ∧ Below w.heap.size w w' := by
  have AW : Hid (∀ W, Vars W → Calls Tryd.prog 9 #[] W fun e w' => e = .returned (.bool true) ∧ Below W.heap.size W w') := Lib.hid awake_any
  have LE : Hid (∀ k n s k' n' s' W, Calls Tryd.prog 12 #[.agg #[.int .i64 k, .int .i64 n, .string s], .agg #[.int .i64 k', .int .i64 n', .string s']] W fun e w' => e = .returned (.bool (lessZ k n s k' n' s')) ∧ Below W.heap.size W w') := Lib.hid fun k n s k' n' s' W => less_any k n k' n' s s' W
  have SA : Hid (∀ W, Calls Tryd.prog 14 #[.agg #[.int .i64 ka, .int .i64 na, .string sa], .agg #[.int .i64 kb, .int .i64 nb, .string sb]] W fun e w' => e = .returned (.bool (sameZ ka na sa kb nb sb)) ∧ Below W.heap.size W w') := Lib.hid fun W => valSame_any ka na kb nb sa sb W
  have heq := fun W => run_equalIn_val ka na kb nb sa sb W
  have haa := less_irr ka na sa
  have H1 := (Held.alloc (Held.alloc (Held.alloc (⟨hv, Below.refl _ _⟩ : Held w w) (.cells #[.int .i64 ka, .int .i64 na, .string sa] 23)) (.cells #[.int .i64 kb, .int .i64 nb, .string sb] 23)) (.cells #[.int .i64 kc, .int .i64 nc, .string sc] 23))
  have ra := row_below (row_below (heap_alloc_new w (.cells #[.int .i64 ka, .int .i64 na, .string sa] 23)) (below_new (Below.refl _ _) (.cells #[.int .i64 kb, .int .i64 nb, .string sb] 23))) (below_new (Below.refl _ _) (.cells #[.int .i64 kc, .int .i64 nc, .string sc] 23))
  have rb := row_below (heap_alloc_new (w.alloc (.cells #[.int .i64 ka, .int .i64 na, .string sa] 23)) (.cells #[.int .i64 kb, .int .i64 nb, .string sb] 23)) (below_new (Below.refl _ _) (.cells #[.int .i64 kc, .int .i64 nc, .string sc] 23))
  have rc := heap_alloc_new ((w.alloc (.cells #[.int .i64 ka, .int .i64 na, .string sa] 23)).alloc (.cells #[.int .i64 kb, .int .i64 nb, .string sb] 23)) (.cells #[.int .i64 kc, .int .i64 nc, .string sc] 23)
  rw [World.size_alloc] at rb
  rw [World.size_alloc, World.size_alloc] at rc
  have RA := Lib.hid ra; have RB := Lib.hid rb; have RC := Lib.hid rc; clear ra rb rc
  by_cases hlen : sa.size ≤ 300 ∧ sb.size ≤ 300 ∧ sc.size ≤ 300
  · obtain ⟨la, lb, lc⟩ := hlen
    have ga : ¬ (300 : Int) < sa.size := by omega
    have gb : ¬ (300 : Int) < sb.size := by omega
    have gc : ¬ (300 : Int) < sc.size := by omega
    clear la lb lc
    cases hx : lessZ ka na sa kb nb sb with
    | true =>
      have hy := less_asym hx
      have hd := less_diff hx
      cases hp : lessZ kb nb sb kc nc sc with
      | true =>
        have hq := less_trans hx hp
        have hkk : ¬ (ka < kb ∧ False) := fun h => h.2
        clear hkk
        go_enter Tryd.func6, Tryd.ntmps6
        go_wp2_with fail
        refine (AW.out _ H1.vars).mono ?_
        rintro e w1 ⟨rfl, b1⟩
        have H2 := H1.next b1
        have ra := row_below RA.out b1; have rb := row_below RB.out b1; have rc := row_below RC.out b1
        have a0 := cell_row ra 0; have a1 := cell_row ra 1; have a2 := cell_row ra 2
        have b0 := cell_row rb 0; have b1 := cell_row rb 1; have b2 := cell_row rb 2
        have c0 := cell_row rc 0; have c1 := cell_row rc 1; have c2 := cell_row rc 2
        simp only [List.getElem?_toArray, List.getElem?_cons_zero, List.getElem?_cons_succ] at a0 a1 a2 b0 b1 b2 c0 c1 c2
        go_wp2_with fail
        refine (LE.out ka na sa kb nb sb _).mono ?_
        rintro e w2 ⟨rfl, bb⟩
        have H3 := H2.next bb
        clear a0 a1 a2 b0 b1 b2 c0 c1 c2
        have ra := row_below ra bb; have rb := row_below rb bb; have rc := row_below rc bb
        have a0 := cell_row ra 0; have a1 := cell_row ra 1; have a2 := cell_row ra 2
        have b0 := cell_row rb 0; have b1 := cell_row rb 1; have b2 := cell_row rb 2
        have c0 := cell_row rc 0; have c1 := cell_row rc 1; have c2 := cell_row rc 2
        simp only [List.getElem?_toArray, List.getElem?_cons_zero, List.getElem?_cons_succ] at a0 a1 a2 b0 b1 b2 c0 c1 c2
        clear bb
        go_wp2_with fail
        refine (LE.out kb nb sb ka na sa _).mono ?_
        rintro e w3 ⟨rfl, bb⟩
        have H4 := H3.next bb
        clear a0 a1 a2 b0 b1 b2 c0 c1 c2
        have ra := row_below ra bb; have rb := row_below rb bb; have rc := row_below rc bb
        have a0 := cell_row ra 0; have a1 := cell_row ra 1; have a2 := cell_row ra 2
        have b0 := cell_row rb 0; have b1 := cell_row rb 1; have b2 := cell_row rb 2
        have c0 := cell_row rc 0; have c1 := cell_row rc 1; have c2 := cell_row rc 2
        simp only [List.getElem?_toArray, List.getElem?_cons_zero, List.getElem?_cons_succ] at a0 a1 a2 b0 b1 b2 c0 c1 c2
        clear bb
        go_wp2_with fail
        refine (LE.out kb nb sb kc nc sc _).mono ?_
        rintro e w4 ⟨rfl, bb⟩
        have H5 := H4.next bb
        clear a0 a1 a2 b0 b1 b2 c0 c1 c2
        have ra := row_below ra bb; have rb := row_below rb bb; have rc := row_below rc bb
        have a0 := cell_row ra 0; have a1 := cell_row ra 1; have a2 := cell_row ra 2
        have b0 := cell_row rb 0; have b1 := cell_row rb 1; have b2 := cell_row rb 2
        have c0 := cell_row rc 0; have c1 := cell_row rc 1; have c2 := cell_row rc 2
        simp only [List.getElem?_toArray, List.getElem?_cons_zero, List.getElem?_cons_succ] at a0 a1 a2 b0 b1 b2 c0 c1 c2
        clear bb
        go_wp2_with fail
        refine (LE.out ka na sa kc nc sc _).mono ?_
        rintro e w5 ⟨rfl, bb⟩
        have H6 := H5.next bb
        clear a0 a1 a2 b0 b1 b2 c0 c1 c2
        have ra := row_below ra bb; have rb := row_below rb bb; have rc := row_below rc bb
        have a0 := cell_row ra 0; have a1 := cell_row ra 1; have a2 := cell_row ra 2
        have b0 := cell_row rb 0; have b1 := cell_row rb 1; have b2 := cell_row rb 2
        have c0 := cell_row rc 0; have c1 := cell_row rc 1; have c2 := cell_row rc 2
        simp only [List.getElem?_toArray, List.getElem?_cons_zero, List.getElem?_cons_succ] at a0 a1 a2 b0 b1 b2 c0 c1 c2
        clear bb
        have HH := H6.drew
        clear ra rb rc
        rcases Decidable.em (ka < kb) with hk | hk
        all_goals go_wp2_with fail
        all_goals
          refine wp_region_held_drew (S := (fun W => Held w W ∧ W.cell? ⟨w.heap.size, 0, none⟩ = some (.int .i64 ka) ∧ W.cell? ⟨w.heap.size, 1, none⟩ = some (.int .i64 na) ∧ W.cell? ⟨w.heap.size, 2, none⟩ = some (.string sa) ∧ W.cell? ⟨w.heap.size + 1, 0, none⟩ = some (.int .i64 kb) ∧ W.cell? ⟨w.heap.size + 1, 1, none⟩ = some (.int .i64 nb) ∧ W.cell? ⟨w.heap.size + 1, 2, none⟩ = some (.string sb))) (by kernel_rfl) ?_ (fun hHeld => ?_)
          · exact ⟨HH, by (show World.cell? _ _ = _; assumption), by (show World.cell? _ _ = _; assumption), by (show World.cell? _ _ = _; assumption), by (show World.cell? _ _ = _; assumption), by (show World.cell? _ _ = _; assumption), by (show World.cell? _ _ = _; assumption)⟩
          refine wpAnyH_take (i := 0) (oi := { dst := some 61, op := Op.move (Operand.tmp 7), type := 4, pos := "law.go:74", after := #[], guard := none }) (v := ?_) rfl (by kernel_rfl) (by kernel_rfl) (by kernel_rfl) (fun _ _ _ h => h) (Or.inl ⟨by rfl, ?_⟩) (by assumption) ?_
          rotate_left 1
          · intro W hSw
            (try dsimp only at hSw)
            go_simp
            (try with_reducible rfl)
          simp only [Act.put, List.setIfInBounds_toArray, List.set_cons_zero, List.set_cons_succ]
          refine wpAnyH_take (i := 1) (oi := { dst := some 62, op := Op.move (Operand.tmp 61), type := 4, pos := "law.go:74", after := #[{ on := 0, ground := Ground.data }], guard := none }) (v := ?_) rfl (by kernel_rfl) (by kernel_rfl) (by kernel_rfl) (fun _ _ _ h => h) (Or.inl ⟨by rfl, ?_⟩) (by assumption) ?_
          rotate_left 1
          · intro W hSw
            (try dsimp only at hSw)
            go_simp
            (try with_reducible rfl)
          simp only [Act.put, List.setIfInBounds_toArray, List.set_cons_zero, List.set_cons_succ]
          refine wpAnyH_take (i := 2) (oi := { dst := some 63, op := Op.move (Operand.tmp 8), type := 4, pos := "law.go:74", after := #[{ on := 1, ground := Ground.guard }], guard := some (1, true) }) (v := ?_) rfl (by kernel_rfl) (by kernel_rfl) (by kernel_rfl) (fun _ _ _ h => h) (Or.inl ⟨by rfl, ?_⟩) (by assumption) ?_
          rotate_left 1
          · intro W hSw
            (try dsimp only at hSw)
            go_simp
            (try with_reducible rfl)
          simp only [Act.put, List.setIfInBounds_toArray, List.set_cons_zero, List.set_cons_succ]
          refine wpAnyH_take (i := 3) (oi := { dst := some 64, op := Op.move (Operand.tmp 63), type := 4, pos := "law.go:74", after := #[{ on := 2, ground := Ground.data }, { on := 1, ground := Ground.chain }, { on := 1, ground := Ground.guard }], guard := some (1, true) }) (v := ?_) rfl (by kernel_rfl) (by kernel_rfl) (by kernel_rfl) (fun _ _ _ h => h) (Or.inl ⟨by rfl, ?_⟩) (by assumption) ?_
          rotate_left 1
          · intro W hSw
            (try dsimp only at hSw)
            go_simp
            (try with_reducible rfl)
          simp only [Act.put, List.setIfInBounds_toArray, List.set_cons_zero, List.set_cons_succ]
          refine wpAnyH_take (i := 4) (oi := { dst := some 65, op := Op.move (Operand.tmp 9), type := 4, pos := "law.go:74", after := #[{ on := 3, ground := Ground.guard }], guard := some (3, false) }) (v := undef) rfl (by kernel_rfl) (by kernel_rfl) (by kernel_rfl) (fun _ _ _ h => h) (Or.inr ⟨by rfl, rfl⟩) (by assumption) ?_
          simp only [Act.put, List.setIfInBounds_toArray, List.set_cons_zero, List.set_cons_succ]
          refine wpAnyH_take (i := 5) (oi := { dst := some 66, op := Op.pick (Operand.tmp 64) (Operand.const (Value.bool true)) (Operand.tmp 65), type := 4, pos := "law.go:74", after := #[{ on := 3, ground := Ground.data }, { on := 4, ground := Ground.data }, { on := 1, ground := Ground.guard }], guard := some (1, true) }) (v := ?_) rfl (by kernel_rfl) (by kernel_rfl) (by kernel_rfl) (fun _ _ _ h => h) (Or.inl ⟨by rfl, ?_⟩) (by assumption) ?_
          rotate_left 1
          · intro W hSw
            (try dsimp only at hSw)
            go_simp
            (try with_reducible rfl)
          simp only [Act.put, List.setIfInBounds_toArray, List.set_cons_zero, List.set_cons_succ]
          refine wpAnyH_take (i := 6) (oi := { dst := some 67, op := Op.load 23 (Operand.tmp 3), type := 23, pos := "law.go:74", after := #[{ on := 1, ground := Ground.guard }], guard := some (1, true) }) (v := ?_) rfl (by kernel_rfl) (by kernel_rfl) (by kernel_rfl) (fun _ _ _ h => h) (Or.inl ⟨by rfl, ?_⟩) (by assumption) ?_
          rotate_left 1
          · intro W hSw
            (try dsimp only at hSw)
            go_simp
            (try with_reducible rfl)
          simp only [Act.put, List.setIfInBounds_toArray, List.set_cons_zero, List.set_cons_succ]
          refine wpAnyH_take (i := 7) (oi := { dst := some 68, op := Op.load 23 (Operand.tmp 4), type := 23, pos := "law.go:74", after := #[{ on := 1, ground := Ground.guard }], guard := some (1, true) }) (v := ?_) rfl (by kernel_rfl) (by kernel_rfl) (by kernel_rfl) (fun _ _ _ h => h) (Or.inl ⟨by rfl, ?_⟩) (by assumption) ?_
          rotate_left 1
          · intro W hSw
            (try dsimp only at hSw)
            go_simp
            (try with_reducible rfl)
          simp only [Act.put, List.setIfInBounds_toArray, List.set_cons_zero, List.set_cons_succ]
          refine wpAnyH_take (i := 8) (oi := { dst := some 69, op := Op.binOp BinOp.neq 23 (Operand.tmp 67) (Operand.tmp 68) 23, type := 4, pos := "law.go:74", after := #[{ on := 6, ground := Ground.data }, { on := 7, ground := Ground.data }, { on := 1, ground := Ground.guard }], guard := some (1, true) }) (v := ?_) rfl (by kernel_rfl) (by kernel_rfl) (by kernel_rfl) (fun _ _ _ h => h) (Or.inl ⟨by rfl, ?_⟩) (by assumption) ?_
          rotate_left 1
          · intro W hSw
            (try dsimp only at hSw)
            go_simp
            (try with_reducible rfl)
          simp only [Act.put, List.setIfInBounds_toArray, List.set_cons_zero, List.set_cons_succ]
          refine wpAnyH_take (i := 9) (oi := { dst := some 70, op := Op.binOp BinOp.eql 4 (Operand.tmp 66) (Operand.tmp 69) 4, type := 4, pos := "law.go:74", after := #[{ on := 5, ground := Ground.data }, { on := 8, ground := Ground.data }, { on := 1, ground := Ground.guard }], guard := some (1, true) }) (v := ?_) rfl (by kernel_rfl) (by kernel_rfl) (by kernel_rfl) (fun _ _ _ h => h) (Or.inl ⟨by rfl, ?_⟩) (by assumption) ?_
          rotate_left 1
          · intro W hSw
            (try dsimp only at hSw)
            go_simp
            (try with_reducible rfl)
          simp only [Act.put, List.setIfInBounds_toArray, List.set_cons_zero, List.set_cons_succ]
          refine wpAnyH_take (i := 10) (oi := { dst := some 71, op := Op.pick (Operand.tmp 62) (Operand.tmp 70) (Operand.const (Value.bool false)), type := 4, pos := "law.go:74", after := #[{ on := 1, ground := Ground.data }, { on := 9, ground := Ground.data }], guard := none }) (v := ?_) rfl (by kernel_rfl) (by kernel_rfl) (by kernel_rfl) (fun _ _ _ h => h) (Or.inl ⟨by rfl, ?_⟩) (by assumption) ?_
          rotate_left 1
          · intro W hSw
            (try dsimp only at hSw)
            go_simp
            (try with_reducible rfl)
          simp only [Act.put, List.setIfInBounds_toArray, List.set_cons_zero, List.set_cons_succ]
          refine wpAnyH_take (i := 11) (oi := { dst := some 72, op := Op.move (Operand.tmp 71), type := 4, pos := "law.go:74", after := #[{ on := 10, ground := Ground.data }, { on := 3, ground := Ground.chain }], guard := none }) (v := ?_) rfl (by kernel_rfl) (by kernel_rfl) (by kernel_rfl) (fun _ _ _ h => h) (Or.inl ⟨by rfl, ?_⟩) (by assumption) ?_
          rotate_left 1
          · intro W hSw
            (try dsimp only at hSw)
            go_simp
            (try with_reducible rfl)
          simp only [Act.put, List.setIfInBounds_toArray, List.set_cons_zero, List.set_cons_succ]
          refine wpAnyH_take (i := 12) (oi := { dst := some 73, op := Op.load 23 (Operand.tmp 3), type := 23, pos := "law.go:74", after := #[{ on := 11, ground := Ground.guard }], guard := some (11, true) }) (v := ?_) rfl (by kernel_rfl) (by kernel_rfl) (by kernel_rfl) (fun _ _ _ h => h) (Or.inl ⟨by rfl, ?_⟩) (by assumption) ?_
          rotate_left 1
          · intro W hSw
            (try dsimp only at hSw)
            go_simp
            (try with_reducible rfl)
          simp only [Act.put, List.setIfInBounds_toArray, List.set_cons_zero, List.set_cons_succ]
          refine wpAnyH_take (i := 13) (oi := { dst := some 74, op := Op.load 23 (Operand.tmp 4), type := 23, pos := "law.go:74", after := #[{ on := 11, ground := Ground.guard }], guard := some (11, true) }) (v := ?_) rfl (by kernel_rfl) (by kernel_rfl) (by kernel_rfl) (fun _ _ _ h => h) (Or.inl ⟨by rfl, ?_⟩) (by assumption) ?_
          rotate_left 1
          · intro W hSw
            (try dsimp only at hSw)
            go_simp
            (try with_reducible rfl)
          simp only [Act.put, List.setIfInBounds_toArray, List.set_cons_zero, List.set_cons_succ]
          refine wpAnyH_take (i := 15) (oi := { dst := some 76, op := Op.load 23 (Operand.tmp 3), type := 23, pos := "law.go:74", after := #[{ on := 11, ground := Ground.guard }], guard := some (11, true) }) (v := ?_) rfl (by kernel_rfl) (by kernel_rfl) (by kernel_rfl) (fun _ _ _ h => h) (Or.inl ⟨by rfl, ?_⟩) (by assumption) ?_
          rotate_left 1
          · intro W hSw
            (try dsimp only at hSw)
            go_simp
            (try with_reducible rfl)
          simp only [Act.put, List.setIfInBounds_toArray, List.set_cons_zero, List.set_cons_succ]
          refine wpAnyH_take (i := 16) (oi := { dst := some 77, op := Op.load 23 (Operand.tmp 4), type := 23, pos := "law.go:74", after := #[{ on := 11, ground := Ground.guard }], guard := some (11, true) }) (v := ?_) rfl (by kernel_rfl) (by kernel_rfl) (by kernel_rfl) (fun _ _ _ h => h) (Or.inl ⟨by rfl, ?_⟩) (by assumption) ?_
          rotate_left 1
          · intro W hSw
            (try dsimp only at hSw)
            go_simp
            (try with_reducible rfl)
          simp only [Act.put, List.setIfInBounds_toArray, List.set_cons_zero, List.set_cons_succ]
          refine wpAnyH_take (i := 17) (oi := { dst := some 78, op := Op.binOp BinOp.eql 23 (Operand.tmp 76) (Operand.tmp 77) 23, type := 4, pos := "law.go:74", after := #[{ on := 15, ground := Ground.data }, { on := 16, ground := Ground.data }, { on := 11, ground := Ground.guard }], guard := some (11, true) }) (v := ?_) rfl (by kernel_rfl) (by kernel_rfl) (by kernel_rfl) (fun _ _ _ h => h) (Or.inl ⟨by rfl, ?_⟩) (by assumption) ?_
          rotate_left 1
          · intro W hSw
            (try dsimp only at hSw)
            go_simp
            (try with_reducible rfl)
          simp only [Act.put, List.setIfInBounds_toArray, List.set_cons_zero, List.set_cons_succ]
          refine wpAnyH_ready (rs := [14]) (by kernel_rfl) (by simp) (AllReadyH.cons (o := { dst := some 75, op := Op.call { callee := Callee.value (Operand.func 14), args := #[Operand.tmp 73, Operand.tmp 74], argTypes := #[23, 23] }, type := 4, pos := "law.go:74", after := #[{ on := 12, ground := Ground.data }, { on := 13, ground := Ground.data }, { on := 11, ground := Ground.chain }, { on := 11, ground := Ground.guard }], guard := some (11, true) }) rfl (fun K hK => ?_) AllReadyH.nil)
          go_simp
          refine (SA.out _).mono ?_
          rintro e wx ⟨rfl, bb⟩
          (try go_wp2_with fail)
          refine hK.out _ _ ?_ (fun hHeld => ?_)
          · (try dsimp only)
            go_split_ands
            refine ⟨?_, ?_, ?_, ?_, ?_, ?_, ?_⟩
            · exact Held.next (by assumption) bb
            all_goals exact (bb.cell (World.block_lt_of_cell? _ _ (by assumption))).trans (by assumption)
          clear hK K
          (try simp only [Act.put, List.setIfInBounds_toArray, List.set_cons_zero, List.set_cons_succ])
          refine wpAnyH_take (i := 18) (oi := { dst := some 79, op := Op.binOp BinOp.eql 4 (Operand.tmp 75) (Operand.tmp 78) 4, type := 4, pos := "law.go:74", after := #[{ on := 14, ground := Ground.data }, { on := 17, ground := Ground.data }, { on := 11, ground := Ground.guard }], guard := some (11, true) }) (v := ?_) rfl (by kernel_rfl) (by kernel_rfl) (by kernel_rfl) (fun _ _ _ h => h) (Or.inl ⟨by rfl, ?_⟩) (by assumption) ?_
          rotate_left 1
          · intro W hSw
            (try dsimp only at hSw)
            go_simp
            (try with_reducible rfl)
          simp only [Act.put, List.setIfInBounds_toArray, List.set_cons_zero, List.set_cons_succ]
          refine wpAnyH_take (i := 19) (oi := { dst := some 80, op := Op.pick (Operand.tmp 72) (Operand.tmp 79) (Operand.const (Value.bool false)), type := 4, pos := "law.go:74", after := #[{ on := 11, ground := Ground.data }, { on := 18, ground := Ground.data }], guard := none }) (v := ?_) rfl (by kernel_rfl) (by kernel_rfl) (by kernel_rfl) (fun _ _ _ h => h) (Or.inl ⟨by rfl, ?_⟩) (by assumption) ?_
          rotate_left 1
          · intro W hSw
            (try dsimp only at hSw)
            go_simp
            (try with_reducible rfl)
          simp only [Act.put, List.setIfInBounds_toArray, List.set_cons_zero, List.set_cons_succ]
          refine wpAnyH_take (i := 20) (oi := { dst := some 81, op := Op.move (Operand.tmp 80), type := 4, pos := "law.go:74", after := #[{ on := 19, ground := Ground.data }, { on := 14, ground := Ground.chain }], guard := none }) (v := ?_) rfl (by kernel_rfl) (by kernel_rfl) (by kernel_rfl) (fun _ _ _ h => h) (Or.inl ⟨by rfl, ?_⟩) (by assumption) ?_
          rotate_left 1
          · intro W hSw
            (try dsimp only at hSw)
            go_simp
            (try with_reducible rfl)
          simp only [Act.put, List.setIfInBounds_toArray, List.set_cons_zero, List.set_cons_succ]
          refine wpAnyH_take (i := 21) (oi := { dst := some 82, op := Op.load 23 (Operand.tmp 3), type := 23, pos := "law.go:74", after := #[{ on := 20, ground := Ground.guard }], guard := some (20, true) }) (v := ?_) rfl (by kernel_rfl) (by kernel_rfl) (by kernel_rfl) (fun _ _ _ h => h) (Or.inl ⟨by rfl, ?_⟩) (by assumption) ?_
          rotate_left 1
          · intro W hSw
            (try dsimp only at hSw)
            go_simp
            (try with_reducible rfl)
          simp only [Act.put, List.setIfInBounds_toArray, List.set_cons_zero, List.set_cons_succ]
          refine wpAnyH_take (i := 22) (oi := { dst := some 83, op := Op.load 23 (Operand.tmp 3), type := 23, pos := "law.go:74", after := #[{ on := 20, ground := Ground.guard }], guard := some (20, true) }) (v := ?_) rfl (by kernel_rfl) (by kernel_rfl) (by kernel_rfl) (fun _ _ _ h => h) (Or.inl ⟨by rfl, ?_⟩) (by assumption) ?_
          rotate_left 1
          · intro W hSw
            (try dsimp only at hSw)
            go_simp
            (try with_reducible rfl)
          simp only [Act.put, List.setIfInBounds_toArray, List.set_cons_zero, List.set_cons_succ]
          refine wpAnyH_ready (rs := [23]) (by kernel_rfl) (by simp) (AllReadyH.cons (o := { dst := some 84, op := Op.call { callee := Callee.value (Operand.func 12), args := #[Operand.tmp 82, Operand.tmp 83], argTypes := #[23, 23] }, type := 4, pos := "law.go:74", after := #[{ on := 21, ground := Ground.data }, { on := 22, ground := Ground.data }, { on := 20, ground := Ground.chain }, { on := 20, ground := Ground.guard }], guard := some (20, true) }) rfl (fun K hK => ?_) AllReadyH.nil)
          go_simp
          refine (LE.out ka na sa ka na sa _).mono ?_
          rintro e wy ⟨rfl, bb⟩
          (try go_wp2_with fail)
          refine hK.out _ _ ?_ (fun hHeld => ?_)
          · (try dsimp only)
            go_split_ands
            refine ⟨?_, ?_, ?_, ?_, ?_, ?_, ?_⟩
            · exact Held.next (by assumption) bb
            all_goals exact (bb.cell (World.block_lt_of_cell? _ _ (by assumption))).trans (by assumption)
          clear hK K
          (try simp only [Act.put, List.setIfInBounds_toArray, List.set_cons_zero, List.set_cons_succ])
          refine wpAnyH_take (i := 24) (oi := { dst := some 85, op := Op.unOp UnOp.not 4 (Operand.tmp 84), type := 4, pos := "law.go:74", after := #[{ on := 23, ground := Ground.data }, { on := 20, ground := Ground.guard }], guard := some (20, true) }) (v := ?_) rfl (by kernel_rfl) (by kernel_rfl) (by kernel_rfl) (fun _ _ _ h => h) (Or.inl ⟨by rfl, ?_⟩) (by assumption) ?_
          rotate_left 1
          · intro W hSw
            (try dsimp only at hSw)
            go_simp
            (try with_reducible rfl)
          simp only [Act.put, List.setIfInBounds_toArray, List.set_cons_zero, List.set_cons_succ]
          refine wpAnyH_take (i := 25) (oi := { dst := some 86, op := Op.pick (Operand.tmp 81) (Operand.tmp 85) (Operand.const (Value.bool false)), type := 4, pos := "law.go:74", after := #[{ on := 20, ground := Ground.data }, { on := 24, ground := Ground.data }], guard := none }) (v := ?_) rfl (by kernel_rfl) (by kernel_rfl) (by kernel_rfl) (fun _ _ _ h => h) (Or.inl ⟨by rfl, ?_⟩) (by assumption) ?_
          rotate_left 1
          · intro W hSw
            (try dsimp only at hSw)
            go_simp
            (try with_reducible rfl)
          simp only [Act.put, List.setIfInBounds_toArray, List.set_cons_zero, List.set_cons_succ]
          refine wpAnyH_take (i := 26) (oi := _) (v := ?_) rfl (by kernel_rfl) (by kernel_rfl) (by kernel_rfl) (fun _ _ _ h => h) (Or.inl ⟨by rfl, ?_⟩) (by assumption) ?_
          rotate_left 1
          · intro W hSw
            (try dsimp only at hSw)
            go_simp
            (try with_reducible rfl)
          refine wpAnyH_done (by kernel_rfl) ?_ _
          go_wp2
          all_goals go_ret
          all_goals (try go_split_ands)
          all_goals exact ⟨rfl, Held.bel (w := w) (by assumption)⟩
      | false =>
        go_enter Tryd.func6, Tryd.ntmps6
        go_wp2_with fail
        refine (AW.out _ H1.vars).mono ?_
        rintro e w1 ⟨rfl, b1⟩
        have H2 := H1.next b1
        have ra := row_below RA.out b1; have rb := row_below RB.out b1; have rc := row_below RC.out b1
        have a0 := cell_row ra 0; have a1 := cell_row ra 1; have a2 := cell_row ra 2
        have b0 := cell_row rb 0; have b1 := cell_row rb 1; have b2 := cell_row rb 2
        have c0 := cell_row rc 0; have c1 := cell_row rc 1; have c2 := cell_row rc 2
        simp only [List.getElem?_toArray, List.getElem?_cons_zero, List.getElem?_cons_succ] at a0 a1 a2 b0 b1 b2 c0 c1 c2
        go_wp2_with fail
        refine (LE.out ka na sa kb nb sb _).mono ?_
        rintro e w2 ⟨rfl, bb⟩
        have H3 := H2.next bb
        clear a0 a1 a2 b0 b1 b2 c0 c1 c2
        have ra := row_below ra bb; have rb := row_below rb bb; have rc := row_below rc bb
        have a0 := cell_row ra 0; have a1 := cell_row ra 1; have a2 := cell_row ra 2
        have b0 := cell_row rb 0; have b1 := cell_row rb 1; have b2 := cell_row rb 2
        have c0 := cell_row rc 0; have c1 := cell_row rc 1; have c2 := cell_row rc 2
        simp only [List.getElem?_toArray, List.getElem?_cons_zero, List.getElem?_cons_succ] at a0 a1 a2 b0 b1 b2 c0 c1 c2
        clear bb
        go_wp2_with fail
        refine (LE.out kb nb sb ka na sa _).mono ?_
        rintro e w3 ⟨rfl, bb⟩
        have H4 := H3.next bb
        clear a0 a1 a2 b0 b1 b2 c0 c1 c2
        have ra := row_below ra bb; have rb := row_below rb bb; have rc := row_below rc bb
        have a0 := cell_row ra 0; have a1 := cell_row ra 1; have a2 := cell_row ra 2
        have b0 := cell_row rb 0; have b1 := cell_row rb 1; have b2 := cell_row rb 2
        have c0 := cell_row rc 0; have c1 := cell_row rc 1; have c2 := cell_row rc 2
        simp only [List.getElem?_toArray, List.getElem?_cons_zero, List.getElem?_cons_succ] at a0 a1 a2 b0 b1 b2 c0 c1 c2
        clear bb
        go_wp2_with fail
        refine (LE.out kb nb sb kc nc sc _).mono ?_
        rintro e w4 ⟨rfl, bb⟩
        have H5 := H4.next bb
        clear a0 a1 a2 b0 b1 b2 c0 c1 c2
        have ra := row_below ra bb; have rb := row_below rb bb; have rc := row_below rc bb
        have a0 := cell_row ra 0; have a1 := cell_row ra 1; have a2 := cell_row ra 2
        have b0 := cell_row rb 0; have b1 := cell_row rb 1; have b2 := cell_row rb 2
        have c0 := cell_row rc 0; have c1 := cell_row rc 1; have c2 := cell_row rc 2
        simp only [List.getElem?_toArray, List.getElem?_cons_zero, List.getElem?_cons_succ] at a0 a1 a2 b0 b1 b2 c0 c1 c2
        clear bb
        have HH := H5.drew
        clear ra rb rc
        rcases Decidable.em (ka < kb) with hk | hk
        all_goals go_wp2_with fail
        all_goals
          refine wp_region_held_drew (S := (fun W => Held w W ∧ W.cell? ⟨w.heap.size, 0, none⟩ = some (.int .i64 ka) ∧ W.cell? ⟨w.heap.size, 1, none⟩ = some (.int .i64 na) ∧ W.cell? ⟨w.heap.size, 2, none⟩ = some (.string sa) ∧ W.cell? ⟨w.heap.size + 1, 0, none⟩ = some (.int .i64 kb) ∧ W.cell? ⟨w.heap.size + 1, 1, none⟩ = some (.int .i64 nb) ∧ W.cell? ⟨w.heap.size + 1, 2, none⟩ = some (.string sb))) (by kernel_rfl) ?_ (fun hHeld => ?_)
          · exact ⟨HH, by (show World.cell? _ _ = _; assumption), by (show World.cell? _ _ = _; assumption), by (show World.cell? _ _ = _; assumption), by (show World.cell? _ _ = _; assumption), by (show World.cell? _ _ = _; assumption), by (show World.cell? _ _ = _; assumption)⟩
          refine wpAnyH_take (i := 0) (oi := { dst := some 61, op := Op.move (Operand.tmp 7), type := 4, pos := "law.go:74", after := #[], guard := none }) (v := ?_) rfl (by kernel_rfl) (by kernel_rfl) (by kernel_rfl) (fun _ _ _ h => h) (Or.inl ⟨by rfl, ?_⟩) (by assumption) ?_
          rotate_left 1
          · intro W hSw
            (try dsimp only at hSw)
            go_simp
            (try with_reducible rfl)
          simp only [Act.put, List.setIfInBounds_toArray, List.set_cons_zero, List.set_cons_succ]
          refine wpAnyH_take (i := 1) (oi := { dst := some 62, op := Op.move (Operand.tmp 61), type := 4, pos := "law.go:74", after := #[{ on := 0, ground := Ground.data }], guard := none }) (v := ?_) rfl (by kernel_rfl) (by kernel_rfl) (by kernel_rfl) (fun _ _ _ h => h) (Or.inl ⟨by rfl, ?_⟩) (by assumption) ?_
          rotate_left 1
          · intro W hSw
            (try dsimp only at hSw)
            go_simp
            (try with_reducible rfl)
          simp only [Act.put, List.setIfInBounds_toArray, List.set_cons_zero, List.set_cons_succ]
          refine wpAnyH_take (i := 2) (oi := { dst := some 63, op := Op.move (Operand.tmp 8), type := 4, pos := "law.go:74", after := #[{ on := 1, ground := Ground.guard }], guard := some (1, true) }) (v := ?_) rfl (by kernel_rfl) (by kernel_rfl) (by kernel_rfl) (fun _ _ _ h => h) (Or.inl ⟨by rfl, ?_⟩) (by assumption) ?_
          rotate_left 1
          · intro W hSw
            (try dsimp only at hSw)
            go_simp
            (try with_reducible rfl)
          simp only [Act.put, List.setIfInBounds_toArray, List.set_cons_zero, List.set_cons_succ]
          refine wpAnyH_take (i := 3) (oi := { dst := some 64, op := Op.move (Operand.tmp 63), type := 4, pos := "law.go:74", after := #[{ on := 2, ground := Ground.data }, { on := 1, ground := Ground.chain }, { on := 1, ground := Ground.guard }], guard := some (1, true) }) (v := ?_) rfl (by kernel_rfl) (by kernel_rfl) (by kernel_rfl) (fun _ _ _ h => h) (Or.inl ⟨by rfl, ?_⟩) (by assumption) ?_
          rotate_left 1
          · intro W hSw
            (try dsimp only at hSw)
            go_simp
            (try with_reducible rfl)
          simp only [Act.put, List.setIfInBounds_toArray, List.set_cons_zero, List.set_cons_succ]
          refine wpAnyH_take (i := 4) (oi := { dst := some 65, op := Op.move (Operand.tmp 9), type := 4, pos := "law.go:74", after := #[{ on := 3, ground := Ground.guard }], guard := some (3, false) }) (v := undef) rfl (by kernel_rfl) (by kernel_rfl) (by kernel_rfl) (fun _ _ _ h => h) (Or.inr ⟨by rfl, rfl⟩) (by assumption) ?_
          simp only [Act.put, List.setIfInBounds_toArray, List.set_cons_zero, List.set_cons_succ]
          refine wpAnyH_take (i := 5) (oi := { dst := some 66, op := Op.pick (Operand.tmp 64) (Operand.const (Value.bool true)) (Operand.tmp 65), type := 4, pos := "law.go:74", after := #[{ on := 3, ground := Ground.data }, { on := 4, ground := Ground.data }, { on := 1, ground := Ground.guard }], guard := some (1, true) }) (v := ?_) rfl (by kernel_rfl) (by kernel_rfl) (by kernel_rfl) (fun _ _ _ h => h) (Or.inl ⟨by rfl, ?_⟩) (by assumption) ?_
          rotate_left 1
          · intro W hSw
            (try dsimp only at hSw)
            go_simp
            (try with_reducible rfl)
          simp only [Act.put, List.setIfInBounds_toArray, List.set_cons_zero, List.set_cons_succ]
          refine wpAnyH_take (i := 6) (oi := { dst := some 67, op := Op.load 23 (Operand.tmp 3), type := 23, pos := "law.go:74", after := #[{ on := 1, ground := Ground.guard }], guard := some (1, true) }) (v := ?_) rfl (by kernel_rfl) (by kernel_rfl) (by kernel_rfl) (fun _ _ _ h => h) (Or.inl ⟨by rfl, ?_⟩) (by assumption) ?_
          rotate_left 1
          · intro W hSw
            (try dsimp only at hSw)
            go_simp
            (try with_reducible rfl)
          simp only [Act.put, List.setIfInBounds_toArray, List.set_cons_zero, List.set_cons_succ]
          refine wpAnyH_take (i := 7) (oi := { dst := some 68, op := Op.load 23 (Operand.tmp 4), type := 23, pos := "law.go:74", after := #[{ on := 1, ground := Ground.guard }], guard := some (1, true) }) (v := ?_) rfl (by kernel_rfl) (by kernel_rfl) (by kernel_rfl) (fun _ _ _ h => h) (Or.inl ⟨by rfl, ?_⟩) (by assumption) ?_
          rotate_left 1
          · intro W hSw
            (try dsimp only at hSw)
            go_simp
            (try with_reducible rfl)
          simp only [Act.put, List.setIfInBounds_toArray, List.set_cons_zero, List.set_cons_succ]
          refine wpAnyH_take (i := 8) (oi := { dst := some 69, op := Op.binOp BinOp.neq 23 (Operand.tmp 67) (Operand.tmp 68) 23, type := 4, pos := "law.go:74", after := #[{ on := 6, ground := Ground.data }, { on := 7, ground := Ground.data }, { on := 1, ground := Ground.guard }], guard := some (1, true) }) (v := ?_) rfl (by kernel_rfl) (by kernel_rfl) (by kernel_rfl) (fun _ _ _ h => h) (Or.inl ⟨by rfl, ?_⟩) (by assumption) ?_
          rotate_left 1
          · intro W hSw
            (try dsimp only at hSw)
            go_simp
            (try with_reducible rfl)
          simp only [Act.put, List.setIfInBounds_toArray, List.set_cons_zero, List.set_cons_succ]
          refine wpAnyH_take (i := 9) (oi := { dst := some 70, op := Op.binOp BinOp.eql 4 (Operand.tmp 66) (Operand.tmp 69) 4, type := 4, pos := "law.go:74", after := #[{ on := 5, ground := Ground.data }, { on := 8, ground := Ground.data }, { on := 1, ground := Ground.guard }], guard := some (1, true) }) (v := ?_) rfl (by kernel_rfl) (by kernel_rfl) (by kernel_rfl) (fun _ _ _ h => h) (Or.inl ⟨by rfl, ?_⟩) (by assumption) ?_
          rotate_left 1
          · intro W hSw
            (try dsimp only at hSw)
            go_simp
            (try with_reducible rfl)
          simp only [Act.put, List.setIfInBounds_toArray, List.set_cons_zero, List.set_cons_succ]
          refine wpAnyH_take (i := 10) (oi := { dst := some 71, op := Op.pick (Operand.tmp 62) (Operand.tmp 70) (Operand.const (Value.bool false)), type := 4, pos := "law.go:74", after := #[{ on := 1, ground := Ground.data }, { on := 9, ground := Ground.data }], guard := none }) (v := ?_) rfl (by kernel_rfl) (by kernel_rfl) (by kernel_rfl) (fun _ _ _ h => h) (Or.inl ⟨by rfl, ?_⟩) (by assumption) ?_
          rotate_left 1
          · intro W hSw
            (try dsimp only at hSw)
            go_simp
            (try with_reducible rfl)
          simp only [Act.put, List.setIfInBounds_toArray, List.set_cons_zero, List.set_cons_succ]
          refine wpAnyH_take (i := 11) (oi := { dst := some 72, op := Op.move (Operand.tmp 71), type := 4, pos := "law.go:74", after := #[{ on := 10, ground := Ground.data }, { on := 3, ground := Ground.chain }], guard := none }) (v := ?_) rfl (by kernel_rfl) (by kernel_rfl) (by kernel_rfl) (fun _ _ _ h => h) (Or.inl ⟨by rfl, ?_⟩) (by assumption) ?_
          rotate_left 1
          · intro W hSw
            (try dsimp only at hSw)
            go_simp
            (try with_reducible rfl)
          simp only [Act.put, List.setIfInBounds_toArray, List.set_cons_zero, List.set_cons_succ]
          refine wpAnyH_take (i := 12) (oi := { dst := some 73, op := Op.load 23 (Operand.tmp 3), type := 23, pos := "law.go:74", after := #[{ on := 11, ground := Ground.guard }], guard := some (11, true) }) (v := ?_) rfl (by kernel_rfl) (by kernel_rfl) (by kernel_rfl) (fun _ _ _ h => h) (Or.inl ⟨by rfl, ?_⟩) (by assumption) ?_
          rotate_left 1
          · intro W hSw
            (try dsimp only at hSw)
            go_simp
            (try with_reducible rfl)
          simp only [Act.put, List.setIfInBounds_toArray, List.set_cons_zero, List.set_cons_succ]
          refine wpAnyH_take (i := 13) (oi := { dst := some 74, op := Op.load 23 (Operand.tmp 4), type := 23, pos := "law.go:74", after := #[{ on := 11, ground := Ground.guard }], guard := some (11, true) }) (v := ?_) rfl (by kernel_rfl) (by kernel_rfl) (by kernel_rfl) (fun _ _ _ h => h) (Or.inl ⟨by rfl, ?_⟩) (by assumption) ?_
          rotate_left 1
          · intro W hSw
            (try dsimp only at hSw)
            go_simp
            (try with_reducible rfl)
          simp only [Act.put, List.setIfInBounds_toArray, List.set_cons_zero, List.set_cons_succ]
          refine wpAnyH_take (i := 15) (oi := { dst := some 76, op := Op.load 23 (Operand.tmp 3), type := 23, pos := "law.go:74", after := #[{ on := 11, ground := Ground.guard }], guard := some (11, true) }) (v := ?_) rfl (by kernel_rfl) (by kernel_rfl) (by kernel_rfl) (fun _ _ _ h => h) (Or.inl ⟨by rfl, ?_⟩) (by assumption) ?_
          rotate_left 1
          · intro W hSw
            (try dsimp only at hSw)
            go_simp
            (try with_reducible rfl)
          simp only [Act.put, List.setIfInBounds_toArray, List.set_cons_zero, List.set_cons_succ]
          refine wpAnyH_take (i := 16) (oi := { dst := some 77, op := Op.load 23 (Operand.tmp 4), type := 23, pos := "law.go:74", after := #[{ on := 11, ground := Ground.guard }], guard := some (11, true) }) (v := ?_) rfl (by kernel_rfl) (by kernel_rfl) (by kernel_rfl) (fun _ _ _ h => h) (Or.inl ⟨by rfl, ?_⟩) (by assumption) ?_
          rotate_left 1
          · intro W hSw
            (try dsimp only at hSw)
            go_simp
            (try with_reducible rfl)
          simp only [Act.put, List.setIfInBounds_toArray, List.set_cons_zero, List.set_cons_succ]
          refine wpAnyH_take (i := 17) (oi := { dst := some 78, op := Op.binOp BinOp.eql 23 (Operand.tmp 76) (Operand.tmp 77) 23, type := 4, pos := "law.go:74", after := #[{ on := 15, ground := Ground.data }, { on := 16, ground := Ground.data }, { on := 11, ground := Ground.guard }], guard := some (11, true) }) (v := ?_) rfl (by kernel_rfl) (by kernel_rfl) (by kernel_rfl) (fun _ _ _ h => h) (Or.inl ⟨by rfl, ?_⟩) (by assumption) ?_
          rotate_left 1
          · intro W hSw
            (try dsimp only at hSw)
            go_simp
            (try with_reducible rfl)
          simp only [Act.put, List.setIfInBounds_toArray, List.set_cons_zero, List.set_cons_succ]
          refine wpAnyH_ready (rs := [14]) (by kernel_rfl) (by simp) (AllReadyH.cons (o := { dst := some 75, op := Op.call { callee := Callee.value (Operand.func 14), args := #[Operand.tmp 73, Operand.tmp 74], argTypes := #[23, 23] }, type := 4, pos := "law.go:74", after := #[{ on := 12, ground := Ground.data }, { on := 13, ground := Ground.data }, { on := 11, ground := Ground.chain }, { on := 11, ground := Ground.guard }], guard := some (11, true) }) rfl (fun K hK => ?_) AllReadyH.nil)
          go_simp
          refine (SA.out _).mono ?_
          rintro e wx ⟨rfl, bb⟩
          (try go_wp2_with fail)
          refine hK.out _ _ ?_ (fun hHeld => ?_)
          · (try dsimp only)
            go_split_ands
            refine ⟨?_, ?_, ?_, ?_, ?_, ?_, ?_⟩
            · exact Held.next (by assumption) bb
            all_goals exact (bb.cell (World.block_lt_of_cell? _ _ (by assumption))).trans (by assumption)
          clear hK K
          (try simp only [Act.put, List.setIfInBounds_toArray, List.set_cons_zero, List.set_cons_succ])
          refine wpAnyH_take (i := 18) (oi := { dst := some 79, op := Op.binOp BinOp.eql 4 (Operand.tmp 75) (Operand.tmp 78) 4, type := 4, pos := "law.go:74", after := #[{ on := 14, ground := Ground.data }, { on := 17, ground := Ground.data }, { on := 11, ground := Ground.guard }], guard := some (11, true) }) (v := ?_) rfl (by kernel_rfl) (by kernel_rfl) (by kernel_rfl) (fun _ _ _ h => h) (Or.inl ⟨by rfl, ?_⟩) (by assumption) ?_
          rotate_left 1
          · intro W hSw
            (try dsimp only at hSw)
            go_simp
            (try with_reducible rfl)
          simp only [Act.put, List.setIfInBounds_toArray, List.set_cons_zero, List.set_cons_succ]
          refine wpAnyH_take (i := 19) (oi := { dst := some 80, op := Op.pick (Operand.tmp 72) (Operand.tmp 79) (Operand.const (Value.bool false)), type := 4, pos := "law.go:74", after := #[{ on := 11, ground := Ground.data }, { on := 18, ground := Ground.data }], guard := none }) (v := ?_) rfl (by kernel_rfl) (by kernel_rfl) (by kernel_rfl) (fun _ _ _ h => h) (Or.inl ⟨by rfl, ?_⟩) (by assumption) ?_
          rotate_left 1
          · intro W hSw
            (try dsimp only at hSw)
            go_simp
            (try with_reducible rfl)
          simp only [Act.put, List.setIfInBounds_toArray, List.set_cons_zero, List.set_cons_succ]
          refine wpAnyH_take (i := 20) (oi := { dst := some 81, op := Op.move (Operand.tmp 80), type := 4, pos := "law.go:74", after := #[{ on := 19, ground := Ground.data }, { on := 14, ground := Ground.chain }], guard := none }) (v := ?_) rfl (by kernel_rfl) (by kernel_rfl) (by kernel_rfl) (fun _ _ _ h => h) (Or.inl ⟨by rfl, ?_⟩) (by assumption) ?_
          rotate_left 1
          · intro W hSw
            (try dsimp only at hSw)
            go_simp
            (try with_reducible rfl)
          simp only [Act.put, List.setIfInBounds_toArray, List.set_cons_zero, List.set_cons_succ]
          refine wpAnyH_take (i := 21) (oi := { dst := some 82, op := Op.load 23 (Operand.tmp 3), type := 23, pos := "law.go:74", after := #[{ on := 20, ground := Ground.guard }], guard := some (20, true) }) (v := ?_) rfl (by kernel_rfl) (by kernel_rfl) (by kernel_rfl) (fun _ _ _ h => h) (Or.inl ⟨by rfl, ?_⟩) (by assumption) ?_
          rotate_left 1
          · intro W hSw
            (try dsimp only at hSw)
            go_simp
            (try with_reducible rfl)
          simp only [Act.put, List.setIfInBounds_toArray, List.set_cons_zero, List.set_cons_succ]
          refine wpAnyH_take (i := 22) (oi := { dst := some 83, op := Op.load 23 (Operand.tmp 3), type := 23, pos := "law.go:74", after := #[{ on := 20, ground := Ground.guard }], guard := some (20, true) }) (v := ?_) rfl (by kernel_rfl) (by kernel_rfl) (by kernel_rfl) (fun _ _ _ h => h) (Or.inl ⟨by rfl, ?_⟩) (by assumption) ?_
          rotate_left 1
          · intro W hSw
            (try dsimp only at hSw)
            go_simp
            (try with_reducible rfl)
          simp only [Act.put, List.setIfInBounds_toArray, List.set_cons_zero, List.set_cons_succ]
          refine wpAnyH_ready (rs := [23]) (by kernel_rfl) (by simp) (AllReadyH.cons (o := { dst := some 84, op := Op.call { callee := Callee.value (Operand.func 12), args := #[Operand.tmp 82, Operand.tmp 83], argTypes := #[23, 23] }, type := 4, pos := "law.go:74", after := #[{ on := 21, ground := Ground.data }, { on := 22, ground := Ground.data }, { on := 20, ground := Ground.chain }, { on := 20, ground := Ground.guard }], guard := some (20, true) }) rfl (fun K hK => ?_) AllReadyH.nil)
          go_simp
          refine (LE.out ka na sa ka na sa _).mono ?_
          rintro e wy ⟨rfl, bb⟩
          (try go_wp2_with fail)
          refine hK.out _ _ ?_ (fun hHeld => ?_)
          · (try dsimp only)
            go_split_ands
            refine ⟨?_, ?_, ?_, ?_, ?_, ?_, ?_⟩
            · exact Held.next (by assumption) bb
            all_goals exact (bb.cell (World.block_lt_of_cell? _ _ (by assumption))).trans (by assumption)
          clear hK K
          (try simp only [Act.put, List.setIfInBounds_toArray, List.set_cons_zero, List.set_cons_succ])
          refine wpAnyH_take (i := 24) (oi := { dst := some 85, op := Op.unOp UnOp.not 4 (Operand.tmp 84), type := 4, pos := "law.go:74", after := #[{ on := 23, ground := Ground.data }, { on := 20, ground := Ground.guard }], guard := some (20, true) }) (v := ?_) rfl (by kernel_rfl) (by kernel_rfl) (by kernel_rfl) (fun _ _ _ h => h) (Or.inl ⟨by rfl, ?_⟩) (by assumption) ?_
          rotate_left 1
          · intro W hSw
            (try dsimp only at hSw)
            go_simp
            (try with_reducible rfl)
          simp only [Act.put, List.setIfInBounds_toArray, List.set_cons_zero, List.set_cons_succ]
          refine wpAnyH_take (i := 25) (oi := { dst := some 86, op := Op.pick (Operand.tmp 81) (Operand.tmp 85) (Operand.const (Value.bool false)), type := 4, pos := "law.go:74", after := #[{ on := 20, ground := Ground.data }, { on := 24, ground := Ground.data }], guard := none }) (v := ?_) rfl (by kernel_rfl) (by kernel_rfl) (by kernel_rfl) (fun _ _ _ h => h) (Or.inl ⟨by rfl, ?_⟩) (by assumption) ?_
          rotate_left 1
          · intro W hSw
            (try dsimp only at hSw)
            go_simp
            (try with_reducible rfl)
          simp only [Act.put, List.setIfInBounds_toArray, List.set_cons_zero, List.set_cons_succ]
          refine wpAnyH_take (i := 26) (oi := _) (v := ?_) rfl (by kernel_rfl) (by kernel_rfl) (by kernel_rfl) (fun _ _ _ h => h) (Or.inl ⟨by rfl, ?_⟩) (by assumption) ?_
          rotate_left 1
          · intro W hSw
            (try dsimp only at hSw)
            go_simp
            (try with_reducible rfl)
          refine wpAnyH_done (by kernel_rfl) ?_ _
          go_wp2
          all_goals go_ret
          all_goals (try go_split_ands)
          all_goals exact ⟨rfl, Held.bel (w := w) (by assumption)⟩
    | false =>
      have hk : ¬ ka < kb := fun h => by rw [less_kind h] at hx; cases hx
      cases hy : lessZ kb nb sb ka na sa with
      | true =>
        have hd := same_comm (less_diff hy)
        go_enter Tryd.func6, Tryd.ntmps6
        go_wp2_with fail
        refine (AW.out _ H1.vars).mono ?_
        rintro e w1 ⟨rfl, b1⟩
        have H2 := H1.next b1
        have ra := row_below RA.out b1; have rb := row_below RB.out b1; have rc := row_below RC.out b1
        have a0 := cell_row ra 0; have a1 := cell_row ra 1; have a2 := cell_row ra 2
        have b0 := cell_row rb 0; have b1 := cell_row rb 1; have b2 := cell_row rb 2
        have c0 := cell_row rc 0; have c1 := cell_row rc 1; have c2 := cell_row rc 2
        simp only [List.getElem?_toArray, List.getElem?_cons_zero, List.getElem?_cons_succ] at a0 a1 a2 b0 b1 b2 c0 c1 c2
        go_wp2_with fail
        refine (LE.out ka na sa kb nb sb _).mono ?_
        rintro e w2 ⟨rfl, bb⟩
        have H3 := H2.next bb
        clear a0 a1 a2 b0 b1 b2 c0 c1 c2
        have ra := row_below ra bb; have rb := row_below rb bb; have rc := row_below rc bb
        have a0 := cell_row ra 0; have a1 := cell_row ra 1; have a2 := cell_row ra 2
        have b0 := cell_row rb 0; have b1 := cell_row rb 1; have b2 := cell_row rb 2
        have c0 := cell_row rc 0; have c1 := cell_row rc 1; have c2 := cell_row rc 2
        simp only [List.getElem?_toArray, List.getElem?_cons_zero, List.getElem?_cons_succ] at a0 a1 a2 b0 b1 b2 c0 c1 c2
        clear bb
        go_wp2_with fail
        refine (LE.out kb nb sb ka na sa _).mono ?_
        rintro e w3 ⟨rfl, bb⟩
        have H4 := H3.next bb
        clear a0 a1 a2 b0 b1 b2 c0 c1 c2
        have ra := row_below ra bb; have rb := row_below rb bb; have rc := row_below rc bb
        have a0 := cell_row ra 0; have a1 := cell_row ra 1; have a2 := cell_row ra 2
        have b0 := cell_row rb 0; have b1 := cell_row rb 1; have b2 := cell_row rb 2
        have c0 := cell_row rc 0; have c1 := cell_row rc 1; have c2 := cell_row rc 2
        simp only [List.getElem?_toArray, List.getElem?_cons_zero, List.getElem?_cons_succ] at a0 a1 a2 b0 b1 b2 c0 c1 c2
        clear bb
        clear ra rb rc
        go_wp2_with fail
        all_goals go_region_held3 (fun W => Held w W ∧ W.cell? ⟨w.heap.size, 0, none⟩ = some (.int .i64 ka) ∧ W.cell? ⟨w.heap.size, 1, none⟩ = some (.int .i64 na) ∧ W.cell? ⟨w.heap.size, 2, none⟩ = some (.string sa) ∧ W.cell? ⟨w.heap.size + 1, 0, none⟩ = some (.int .i64 kb) ∧ W.cell? ⟨w.heap.size + 1, 1, none⟩ = some (.int .i64 nb) ∧ W.cell? ⟨w.heap.size + 1, 2, none⟩ = some (.string sb))
      (first
        | (go_split_ands
           refine ⟨?_, ?_, ?_, ?_, ?_, ?_, ?_⟩
           · exact Held.next (by assumption) bb
           all_goals exact (bb.cell (World.block_lt_of_cell? _ _ (by assumption))).trans (by assumption))
        | (go_split_ands
           refine ⟨?_, ?_, ?_, ?_, ?_, ?_, ?_⟩
           · exact Held.drew (by assumption)
           all_goals (show World.cell? _ _ = _; assumption))
        | go_keep)
      (first
        | (go_at_call 12; refine (LE.out ka na sa ka na sa _).mono ?_; rintro e wx ⟨rfl, bb⟩)
        | (go_at_call 14; refine (SA.out _).mono ?_; rintro e wx ⟨rfl, bb⟩))
        all_goals go_wp2
        all_goals go_ret
        all_goals (try go_split_ands)
        all_goals exact ⟨rfl, Held.bel (w := w) (by assumption)⟩
      | false =>
        have hd := less_tot hx hy
        go_enter Tryd.func6, Tryd.ntmps6
        go_wp2_with fail
        refine (AW.out _ H1.vars).mono ?_
        rintro e w1 ⟨rfl, b1⟩
        have H2 := H1.next b1
        have ra := row_below RA.out b1; have rb := row_below RB.out b1; have rc := row_below RC.out b1
        have a0 := cell_row ra 0; have a1 := cell_row ra 1; have a2 := cell_row ra 2
        have b0 := cell_row rb 0; have b1 := cell_row rb 1; have b2 := cell_row rb 2
        have c0 := cell_row rc 0; have c1 := cell_row rc 1; have c2 := cell_row rc 2
        simp only [List.getElem?_toArray, List.getElem?_cons_zero, List.getElem?_cons_succ] at a0 a1 a2 b0 b1 b2 c0 c1 c2
        go_wp2_with fail
        refine (LE.out ka na sa kb nb sb _).mono ?_
        rintro e w2 ⟨rfl, bb⟩
        have H3 := H2.next bb
        clear a0 a1 a2 b0 b1 b2 c0 c1 c2
        have ra := row_below ra bb; have rb := row_below rb bb; have rc := row_below rc bb
        have a0 := cell_row ra 0; have a1 := cell_row ra 1; have a2 := cell_row ra 2
        have b0 := cell_row rb 0; have b1 := cell_row rb 1; have b2 := cell_row rb 2
        have c0 := cell_row rc 0; have c1 := cell_row rc 1; have c2 := cell_row rc 2
        simp only [List.getElem?_toArray, List.getElem?_cons_zero, List.getElem?_cons_succ] at a0 a1 a2 b0 b1 b2 c0 c1 c2
        clear bb
        go_wp2_with fail
        refine (LE.out kb nb sb ka na sa _).mono ?_
        rintro e w3 ⟨rfl, bb⟩
        have H4 := H3.next bb
        clear a0 a1 a2 b0 b1 b2 c0 c1 c2
        have ra := row_below ra bb; have rb := row_below rb bb; have rc := row_below rc bb
        have a0 := cell_row ra 0; have a1 := cell_row ra 1; have a2 := cell_row ra 2
        have b0 := cell_row rb 0; have b1 := cell_row rb 1; have b2 := cell_row rb 2
        have c0 := cell_row rc 0; have c1 := cell_row rc 1; have c2 := cell_row rc 2
        simp only [List.getElem?_toArray, List.getElem?_cons_zero, List.getElem?_cons_succ] at a0 a1 a2 b0 b1 b2 c0 c1 c2
        clear bb
        clear ra rb rc
        go_wp2_with fail
        all_goals go_region_held3 (fun W => Held w W ∧ W.cell? ⟨w.heap.size, 0, none⟩ = some (.int .i64 ka) ∧ W.cell? ⟨w.heap.size, 1, none⟩ = some (.int .i64 na) ∧ W.cell? ⟨w.heap.size, 2, none⟩ = some (.string sa) ∧ W.cell? ⟨w.heap.size + 1, 0, none⟩ = some (.int .i64 kb) ∧ W.cell? ⟨w.heap.size + 1, 1, none⟩ = some (.int .i64 nb) ∧ W.cell? ⟨w.heap.size + 1, 2, none⟩ = some (.string sb))
      (first
        | (go_split_ands
           refine ⟨?_, ?_, ?_, ?_, ?_, ?_, ?_⟩
           · exact Held.next (by assumption) bb
           all_goals exact (bb.cell (World.block_lt_of_cell? _ _ (by assumption))).trans (by assumption))
        | (go_split_ands
           refine ⟨?_, ?_, ?_, ?_, ?_, ?_, ?_⟩
           · exact Held.drew (by assumption)
           all_goals (show World.cell? _ _ = _; assumption))
        | go_keep)
      (first
        | (go_at_call 12; refine (LE.out ka na sa ka na sa _).mono ?_; rintro e wx ⟨rfl, bb⟩)
        | (go_at_call 14; refine (SA.out _).mono ?_; rintro e wx ⟨rfl, bb⟩))
        all_goals go_wp2
        all_goals go_ret
        all_goals (try go_split_ands)
        all_goals exact ⟨rfl, Held.bel (w := w) (by assumption)⟩
  · rcases Decidable.em (sa.size ≤ 300) with la | la
    · rcases Decidable.em (sb.size ≤ 300) with lb | lb
      · have lc : ¬ sc.size ≤ 300 := fun h => hlen ⟨la, lb, h⟩
        have ga : ¬ (300 : Int) < sa.size := by omega
        have gb : ¬ (300 : Int) < sb.size := by omega
        have gc : (300 : Int) < sc.size := by omega
        go_enter Tryd.func6, Tryd.ntmps6
        go_wp2_with fail
        refine (AW.out _ H1.vars).mono ?_
        rintro e w1 ⟨rfl, b1⟩
        have H2 := H1.next b1
        have ra := row_below RA.out b1; have rb := row_below RB.out b1; have rc := row_below RC.out b1
        have a0 := cell_row ra 0; have a1 := cell_row ra 1; have a2 := cell_row ra 2
        have b0 := cell_row rb 0; have b1 := cell_row rb 1; have b2 := cell_row rb 2
        have c0 := cell_row rc 0; have c1 := cell_row rc 1; have c2 := cell_row rc 2
        simp only [List.getElem?_toArray, List.getElem?_cons_zero, List.getElem?_cons_succ] at a0 a1 a2 b0 b1 b2 c0 c1 c2
        go_wp2
        all_goals go_ret
        all_goals exact ⟨rfl, H2.bel⟩
      · have ga : ¬ (300 : Int) < sa.size := by omega
        have gb : (300 : Int) < sb.size := by omega
        go_enter Tryd.func6, Tryd.ntmps6
        go_wp2_with fail
        refine (AW.out _ H1.vars).mono ?_
        rintro e w1 ⟨rfl, b1⟩
        have H2 := H1.next b1
        have ra := row_below RA.out b1; have rb := row_below RB.out b1; have rc := row_below RC.out b1
        have a0 := cell_row ra 0; have a1 := cell_row ra 1; have a2 := cell_row ra 2
        have b0 := cell_row rb 0; have b1 := cell_row rb 1; have b2 := cell_row rb 2
        have c0 := cell_row rc 0; have c1 := cell_row rc 1; have c2 := cell_row rc 2
        simp only [List.getElem?_toArray, List.getElem?_cons_zero, List.getElem?_cons_succ] at a0 a1 a2 b0 b1 b2 c0 c1 c2
        go_wp2
        all_goals go_ret
        all_goals exact ⟨rfl, H2.bel⟩
    · have ga : (300 : Int) < sa.size := by omega
      go_enter Tryd.func6, Tryd.ntmps6
      go_wp2_with fail
      refine (AW.out _ H1.vars).mono ?_
      rintro e w1 ⟨rfl, b1⟩
      have H2 := H1.next b1
      have ra := row_below RA.out b1; have rb := row_below RB.out b1; have rc := row_below RC.out b1
      have a0 := cell_row ra 0; have a1 := cell_row ra 1; have a2 := cell_row ra 2
      have b0 := cell_row rb 0; have b1 := cell_row rb 1; have b2 := cell_row rb 2
      have c0 := cell_row rc 0; have c1 := cell_row rc 1; have c2 := cell_row rc 2
      simp only [List.getElem?_toArray, List.getElem?_cons_zero, List.getElem?_cons_succ] at a0 a1 a2 b0 b1 b2 c0 c1 c2
      go_wp2
      all_goals go_ret
      all_goals exact ⟨rfl, H2.bel⟩

theorem contract (H : Type) (enc : TypeId × Value → H) (W : World) (base : Nat) (args : Array Value) (ds gs : List (DataW H)) (before : List MemPlace)
    (hval : ∀ (j : Nat) t v, Tryd.f6.params[j]? = some t → args[j]? = some v → Value.okWide Tryd.prog W .any base t v)
    (hW : DataW.Whole enc Tryd.prog Tryd.f6.params.toList Rows.valueTotalSpec.vars false W args.toList ds gs before) (hL : laidMetH Tryd.prog Rows.valueTotalRow.laid W) (hS : W.ShapedOpen Tryd.prog) :
    Calls Tryd.prog 6 args W fun e W' => ∃ v, e = .returned v ∧ Rows.valueTotalSpec.post enc Tryd.prog Tryd.f6 false true false false W args v W' := by
  have hlt : ∀ x ∈ before, x.block < W.heap.size := fun x hx => by simpa using hW.lt x hx
  have hvars : Vars W := vars_of hL hS
  refine law_step 4 Tryd.laid_ (by kernel_rfl) rfl Tryd.underlying4 rfl hW (fun xs hx => ?_) ?_
  · match xs, hx with
    | [d0, d1, d2], _ => rfl
  · obtain ⟨p, q, hA0, hV, rfl, _, _⟩ := hW
    have hA : DataW.TrodAll enc Tryd.prog W 0 (fun _ => true) true Tryd.f6.params.toList args.toList ds p := hA0
    rw [Tryd.params6] at hA hval
    obtain ⟨v0, vs0, d0, ds0, p0, q0, e0, rfl, rfl, h0, r0⟩ := trodAll_cons hA
    obtain ⟨v1, vs1, d1, ds1, p1, q1, e1, rfl, rfl, h1, r1⟩ := trodAll_cons r0
    obtain ⟨v2, vs2, d2, ds2, p2, q2, e2, rfl, rfl, h2, r2⟩ := trodAll_cons r1
    obtain ⟨rfl, rfl, rfl⟩ := trodAll_nil r2
    subst e2
    subst e1
    obtain rfl : args = #[v0, v1, v2] := by cases args; simp_all
    clear e0 hA0
    obtain ⟨x0, y0, z0, dx0, dy0, dz0, m0, rfl, rfl, rfl, tx0, ty0, tz0⟩ := Go.Joins.open_agg3 Tryd.underlying23 (by kernel_rfl) (by kernel_rfl) (hval 0 23 v0 rfl rfl) h0
    obtain ⟨ka, ek0, _, wk0⟩ := DataW.trod_int Tryd.underlying3 tx0
    obtain ⟨na, en0, _, wn0⟩ := DataW.trod_int Tryd.underlying3 ty0
    obtain ⟨sa, es0, _, ws0⟩ := DataW.trod_string Tryd.underlying9 tz0
    obtain rfl := List.singleton_inj.1 ek0
    obtain rfl := List.singleton_inj.1 en0
    obtain rfl := List.singleton_inj.1 es0
    obtain ⟨lok0, hik0⟩ := wf_i64 wk0
    obtain ⟨lon0, hin0⟩ := wf_i64 wn0
    obtain ⟨x1, y1, z1, dx1, dy1, dz1, m1, rfl, rfl, rfl, tx1, ty1, tz1⟩ := Go.Joins.open_agg3 Tryd.underlying23 (by kernel_rfl) (by kernel_rfl) (hval 1 23 v1 rfl rfl) h1
    obtain ⟨kb, ek1, _, wk1⟩ := DataW.trod_int Tryd.underlying3 tx1
    obtain ⟨nb, en1, _, wn1⟩ := DataW.trod_int Tryd.underlying3 ty1
    obtain ⟨sb, es1, _, ws1⟩ := DataW.trod_string Tryd.underlying9 tz1
    obtain rfl := List.singleton_inj.1 ek1
    obtain rfl := List.singleton_inj.1 en1
    obtain rfl := List.singleton_inj.1 es1
    obtain ⟨lok1, hik1⟩ := wf_i64 wk1
    obtain ⟨lon1, hin1⟩ := wf_i64 wn1
    obtain ⟨x2, y2, z2, dx2, dy2, dz2, m2, rfl, rfl, rfl, tx2, ty2, tz2⟩ := Go.Joins.open_agg3 Tryd.underlying23 (by kernel_rfl) (by kernel_rfl) (hval 2 23 v2 rfl rfl) h2
    obtain ⟨kc, ek2, _, wk2⟩ := DataW.trod_int Tryd.underlying3 tx2
    obtain ⟨nc, en2, _, wn2⟩ := DataW.trod_int Tryd.underlying3 ty2
    obtain ⟨sc, es2, _, ws2⟩ := DataW.trod_string Tryd.underlying9 tz2
    obtain rfl := List.singleton_inj.1 ek2
    obtain rfl := List.singleton_inj.1 en2
    obtain rfl := List.singleton_inj.1 es2
    obtain ⟨lok2, hik2⟩ := wf_i64 wk2
    obtain ⟨lon2, hin2⟩ := wf_i64 wn2
    exact walk ka na kb nb kc nc sa sb sc W hvars

theorem reads (os : Os) {H : Type} (enc : TypeId × Value → H) : ∃ places, DataW.whole enc Tryd.prog ((laidWorld os).forCall (fun _ _ => 0) ⟨#[], #[.agg #[.int .i64 0, .int .i64 0, .string ⟨#[]⟩], .agg #[.int .i64 0, .int .i64 0, .string ⟨#[]⟩], .agg #[.int .i64 0, .int .i64 0, .string ⟨#[]⟩]], []⟩).memory Tryd.f6.params.toList Rows.valueTotalSpec.vars false #[.agg #[.int .i64 0, .int .i64 0, .string ⟨#[]⟩], .agg #[.int .i64 0, .int .i64 0, .string ⟨#[]⟩], .agg #[.int .i64 0, .int .i64 0, .string ⟨#[]⟩]].toList 8 = some ([.agg [.lit (.int .i64 0), .lit (.int .i64 0), .lit (.string [])], .agg [.lit (.int .i64 0), .lit (.int .i64 0), .lit (.string [])], .agg [.lit (.int .i64 0), .lit (.int .i64 0), .lit (.string [])]], [], places) :=
  ⟨[], by kernel_rfl⟩

theorem lifted (os : Os) (started : os.Started) (H : Type) (enc : TypeId × Value → H) (F : Stop.Interp) :
    ReturnsInHanded {} Tryd.checked os 6 .any ((OpenSpec.ofChange Rows.valueTotalSpec).preRow enc Tryd.prog Tryd.f6 Rows.valueTotalRow.domain false Rows.valueTotalRow.laid) (((OpenSpec.ofChange Rows.valueTotalSpec).at F).post enc Tryd.prog Tryd.f6 false true false false) := by
  obtain ⟨places, hx⟩ := reads os enc
  refine returnsInHanded_of_row (C := Tryd.checked) (s := OpenSpec.ofChange Rows.valueTotalSpec) Tryd.own_ started (by kernel_rfl) Tryd.func6
    (witness_row_atRef (enc := enc) (C := Tryd.checked) false (laidWorld os) #[.agg #[.int .i64 0, .int .i64 0, .string ⟨#[]⟩], .agg #[.int .i64 0, .int .i64 0, .string ⟨#[]⟩], .agg #[.int .i64 0, .int .i64 0, .string ⟨#[]⟩]] rfl (laid_vars os _) (laid_begin os _) (by kernel_rfl)
      (OpenSpec.preRow_of_cond 8 hx (by kernel_rfl) (fun k hk => by cases hk) (by kernel_rfl) (laid_met os _))) ?_
  intro W base args ds gs before hval hW _ _ _ hL hS _
  exact contract H enc W base args ds gs before hval hW hL hS

theorem said : Rows.ValueTotalSaid :=
  OpenClaim.holds_of_cond 6 Tryd.f6 rfl rfl rfl rfl rfl rfl rfl ⟨rfl, rfl, rfl, rfl, rfl⟩ rfl rfl rfl rfl rfl (by kernel_rfl) Tryd.func6 (by kernel_rfl)
    (of_decide_eq_true (by kernel_rfl)) (by unfold Func.isWrapper; first | (rw [if_pos (by decide +kernel)]; kernel_rfl) | (rw [if_neg (by decide +kernel)]; exact ⟨rfl, rfl⟩))
    (fun os started H enc _ F => by rw [OpenClaim.pre_eq_preRow]; exact lifted os started H enc F)

theorem plain (f : FuncId) (fn : Func) (hf : Tryd.pinned.checked.prog.funcNamed "homestead/homesteadlaw02.ValueTotal" = some f) (hfn : Tryd.pinned.checked.prog.funcs[f]? = some fn) :
    true = Tryd.pinned.checked.prog.looks [] ∧ ∀ (j : Nat) t, fn.params[j]? = some t → Tryd.pinned.checked.prog.wantsStandIn t = false := by
  obtain rfl : f = 6 := Option.some.inj ((show Tryd.prog.funcNamed "homestead/homesteadlaw02.ValueTotal" = some 6 by kernel_rfl).symm.trans hf) |>.symm
  obtain rfl : fn = Tryd.f6 := (Option.some.inj (Tryd.func6.symm.trans hfn)).symm
  refine ⟨by kernel_rfl, fun j t ht => ?_⟩
  rw [Tryd.params6] at ht
  have hm : t ∈ [23, 23, 23] := by simpa using Array.mem_of_getElem? ht
  have hall : [23, 23, 23].all (fun t => !Tryd.prog.wantsStandIn t) = true := by kernel_rfl
  exact (show Tryd.prog.wantsStandIn t = false from by simpa using List.all_eq_true.1 hall t hm)

theorem card : Rows.ValueTotalCardSaid :=
  Claim7.holds_tied_plain_at .later [] _ _ _ _ said (fun _ h => by cases h) (by kernel_rfl) (fun _ h => by cases h) valueTotal_row_tie rfl ⟨rfl, rfl⟩ (by kernel_rfl) rfl plain (by kernel_rfl)
end Go.Proofs.YtkicjhphiibifaaDoor.valueTotal
