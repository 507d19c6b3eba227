/- Layer 8: what two counters are together: the code; the document's answers. -/
import Derived.Test.YtieaobeidlhefaaCntMerge
import Derived.Test.YtieaobeidlhefaaValEq
namespace Go.Proofs.Ytieaobeidlhefaa
set_option maxRecDepth 100000
open Go.RowKit

def mergeC (a b o : C5) : Value := if firstN [a, b, o] = 0 then outC (a.v.n + b.v.n - o.v.n) else zeroCell
def mergeE (a b o : C5) : Int := if firstN [a, b, o] = 0 then outE (a.v.n + b.v.n - o.v.n) else firstN [a, b, o]
theorem first3 (a b o : C5) : firstN [a, b, o] = if a.right = 0 then (if b.right = 0 then o.right else b.right) else a.right := by
  by_cases h1 : a.right = 0 <;> by_cases h2 : b.right = 0 <;> by_cases h3 : o.right = 0 <;> simp [firstN, h1, h2, h3]
theorem first3_ok {a b o : C5} (h : firstN [a, b, o] = 0) : a.right = 0 ∧ b.right = 0 ∧ o.right = 0 := by
  rw [first3] at h
  repeat' split at h
  · exact ⟨by assumption, by assumption, h⟩
  · contradiction
  · contradiction

set_option maxHeartbeats 3200000 in
theorem cntMerge_any (a b o : C5) (w : World) :
    Calls Try.prog 45 #[a.val, b.val, o.val] w fun e w' => e = .returned (.tuple #[mergeC a b o, .int .i64 (mergeE a b o)]) ∧ Below w.heap.size w w' := by
  obtain ⟨g, hg⟩ : ∃ g, g = w.heap.size := ⟨_, rfl⟩
  obtain ⟨w1, hw1⟩ : ∃ w1, w1 = (((w.alloc (cellRow a.k a.v (.slice a.A a.n a.c))).alloc (cellRow b.k b.v (.slice b.A b.n b.c))).alloc (cellRow o.k o.v (.slice o.A o.n o.c))).alloc zeroRow := ⟨_, rfl⟩
  have HW1 := Lib.hid hw1; have HG := Lib.hid hg
  have hat : ∀ (w : World) (o : Obj) (g : Nat), w.heap.size = g → (w.alloc o).heap[g]? = some o := fun w o g h => by subst h; exact heap_alloc_new _ _
  have HB : Hid (Below w.heap.size w w1) := by rw [hw1]; exact below_new (below_new (below_new (below_new (Below.refl _ _) _) _) _) _
  have R0 : Hid (w1.heap[g]? = some (cellRow a.k a.v (.slice a.A a.n a.c))) := by
    show _ = _
    rw [hw1, hg]
    rw [Below.heap_alloc _ _ _ (by simp only [World.size_alloc]; omega), Below.heap_alloc _ _ _ (by simp only [World.size_alloc]; omega), Below.heap_alloc _ _ _ (by simp only [World.size_alloc]; omega)]
    exact hat _ _ _ rfl
  have R1 : Hid (w1.heap[g + 1]? = some (cellRow b.k b.v (.slice b.A b.n b.c))) := by
    show _ = _
    rw [hw1, hg]
    rw [Below.heap_alloc _ _ _ (by simp only [World.size_alloc]; omega), Below.heap_alloc _ _ _ (by simp only [World.size_alloc]; omega)]
    exact hat _ _ _ (by simp only [World.size_alloc])
  have R2 : Hid (w1.heap[g + 2]? = some (cellRow o.k o.v (.slice o.A o.n o.c))) := by
    show _ = _
    rw [hw1, hg]
    rw [Below.heap_alloc _ _ _ (by simp only [World.size_alloc]; omega)]
    exact hat _ _ _ (by simp only [World.size_alloc])
  have RR : Hid (w1.heap[g + 3]? = some zeroRow) := by
    show _ = _
    rw [hw1, hg]
    exact hat _ _ _ (by simp only [World.size_alloc])
  have HGW : Hid (w.heap.size ≤ g + 3) := by rw [hg]; exact Nat.le_add_right _ _
  clear hg hw1 hat
  obtain ⟨r, hr⟩ : ∃ r, Hid (firstN [a, b, o] = r) := ⟨_, rfl⟩
  have CF : Hid (∀ W W2 : World, Below (W.alloc (.cells #[.int .i64 a.k, .int .i64 a.v.k, .int .i64 a.v.n, .string a.v.s, .slice a.A a.n a.c, .int .i64 b.k, .int .i64 b.v.k, .int .i64 b.v.n, .string b.v.s, .slice b.A b.n b.c, .int .i64 o.k, .int .i64 o.v.k, .int .i64 o.v.n, .string o.v.s, .slice o.A o.n o.c] 26)).heap.size (W.alloc (.cells #[.int .i64 a.k, .int .i64 a.v.k, .int .i64 a.v.n, .string a.v.s, .slice a.A a.n a.c, .int .i64 b.k, .int .i64 b.v.k, .int .i64 b.v.n, .string b.v.s, .slice b.A b.n b.c, .int .i64 o.k, .int .i64 o.v.k, .int .i64 o.v.n, .string o.v.s, .slice o.A o.n o.c] 26)) W2 → Calls Try.prog 74 #[.slice (some ⟨W.heap.size, 0, none⟩) 3 3] W2 fun e w' => e = .returned (.int .i64 r) ∧ Below W2.heap.size W2 w') := by
    intro W W2 hb
    have := cntFirst_any (some ⟨W.heap.size, 0, none⟩) 3 3 [a, b, o] W2 ((rdg_new c5len W _ _ 26 (by rfl) (by rfl) (by omega) rfl).below hb)
    rwa [hr.out] at this
  have CB : Hid (r = 0 → ∀ W W2 : World, Below (W.alloc (.cells #[.int .i64 a.v.n, .int .i64 b.v.n, .int .i64 (-o.v.n)] 3)).heap.size (W.alloc (.cells #[.int .i64 a.v.n, .int .i64 b.v.n, .int .i64 (-o.v.n)] 3)) W2 → Calls Try.prog 76 #[.slice (some ⟨W.heap.size, 0, none⟩) 3 3] W2 fun e w' => e = .returned (.tuple #[outC (a.v.n + b.v.n - o.v.n), .int .i64 (outE (a.v.n + b.v.n - o.v.n))]) ∧ Below W2.heap.size W2 w') := by
    intro h0 W W2 hb
    have := cntBound_any (some ⟨W.heap.size, 0, none⟩) 3 3 [a.v.n, b.v.n, -o.v.n] W2 ((rd_new W [.int .i64 a.v.n, .int .i64 b.v.n, .int .i64 (-o.v.n)] 3 rfl (by simp)).below hb)
    obtain ⟨h1, h2, h3⟩ := first3_ok (hr.out.trans h0)
    obtain ⟨_, _, _, _, a1, a2⟩ := right_n h1
    obtain ⟨_, _, _, _, b1, b2⟩ := right_n h2
    obtain ⟨_, _, _, _, o1, o2⟩ := right_n h3
    rwa [show addW [a.v.n, b.v.n, -o.v.n] = a.v.n + b.v.n - o.v.n by
      show IntKind.i64.wrap (IntKind.i64.wrap (IntKind.i64.wrap (0 + a.v.n) + b.v.n) + -o.v.n) = _
      rw [wrap0 (by omega), wrap_is (z := a.v.n + b.v.n) (by omega), wrap_is (by omega)]; omega] at this
  obtain ⟨FC, hFC⟩ : ∃ F, Hid (mergeC a b o = F) := ⟨_, rfl⟩
  obtain ⟨FE, hFE⟩ : ∃ F, Hid (mergeE a b o = F) := ⟨_, rfl⟩
  rw [hFC.out, hFE.out]
  obtain ⟨x0a, x0b, x0c, x0d, x0e⟩ := cell_row5 R0.out
  obtain ⟨x1a, x1b, x1c, x1d, x1e⟩ := cell_row5 R1.out
  obtain ⟨x2a, x2b, x2c, x2d, x2e⟩ := cell_row5 R2.out
  go_enter Try.func45, Try.ntmps45
  go_upto_region 1 with fail
  rw [← HG.out]
  rw [show (((w.alloc (cellRow a.k a.v (.slice a.A a.n a.c))).alloc (cellRow b.k b.v (.slice b.A b.n b.c))).alloc (cellRow o.k o.v (.slice o.A o.n o.c))).alloc (Obj.cells #[Value.int .i64 0, .int .i64 0, .int .i64 0, .string ⟨#[]⟩, .slice none 0 0] 26) = w1 from HW1.out.symm]
  clear HW1
  go_wp2_with fail
  refine (CF.out _ _ (Below.refl _ _)).mono ?_
  rintro e w2 ⟨rfl, b2⟩
  replace b2 := below_then (below_new (Below.refl _ _) _) b2
  replace R0 := Lib.hid (row_below R0.out b2)
  replace R1 := Lib.hid (row_below R1.out b2)
  replace R2 := Lib.hid (row_below R2.out b2)
  replace RR := Lib.hid (row_below RR.out b2)
  replace HB := Lib.hid (below_then HB.out b2)
  obtain ⟨y0a, y0b, y0c, y0d, y0e⟩ := cell_row5 R0.out
  obtain ⟨y1a, y1b, y1c, y1d, y1e⟩ := cell_row5 R1.out
  obtain ⟨y2a, y2b, y2c, y2d, y2e⟩ := cell_row5 R2.out
  clear b2 CF x0a x0b x0c x0d x0e x1a x1b x1c x1d x1e x2a x2b x2c x2d x2e
  by_cases h0 : r = 0
  · have HC : Hid (FC = outC (a.v.n + b.v.n - o.v.n)) := by show _ = _; rw [← hFC.out, mergeC, if_pos (hr.out.trans h0)]
    have HE : Hid (FE = outE (a.v.n + b.v.n - o.v.n)) := by show _ = _; rw [← hFE.out, mergeE, if_pos (hr.out.trans h0)]
    have CB2 := Lib.hid (CB.out h0)
    have hneg : IntKind.i64.wrap (-o.v.n) = -o.v.n := by
      obtain ⟨h1, h2, h3⟩ := first3_ok (hr.out.trans h0)
      obtain ⟨_, _, _, _, o1, o2⟩ := right_n h3
      exact wrap_is (by omega)
    subst h0
    clear CB hr hFC hFE
    go_wp2_with fail
    refine (CB2.out _ _ (Below.refl _ _)).mono ?_
    rintro e w6 ⟨rfl, b6⟩
    replace b6 := below_then (below_new (Below.refl _ _) _) b6
    replace RR := Lib.hid (row_below RR.out b6)
    replace HB := Lib.hid (below_then HB.out b6)
    obtain ⟨e0, e1, e2, e3, e4⟩ := cell_row5 RR.out
    have f1 := frozen_row RR.out
    dsimp only at e0 e1 e2 e3 e4
    clear CB2 b6 y0a y0b y0c y0d y0e y1a y1b y1c y1d y1e y2a y2b y2c y2d y2e hneg
    generalize a.v.n + b.v.n - o.v.n = s at HC HE ⊢
    cases hs : okC s with
    | true =>
      replace HC : Hid (FC = cntV s) := by rw [HC.out, outC, hs]; rfl
      replace HE : Hid (FE = 0) := by rw [HE.out, outE, hs]; rfl
      simp only [outC, outE, hs, if_true]
      clear hs
      go_wp2_with fail
      refine bodyPost_ret (v := .tuple #[cntV s, .int .i64 0]) (results_row_tmp rfl _ _ (g + 3) 26 _ (0, 0) _ rfl (set5 RR.out) Try.underlying26 rfl (by kernel_rfl) rfl) rfl ?_
      exact ⟨by rw [HC.out, HE.out], ((((HB.out.setCell HGW.out _).setCell HGW.out _).setCell HGW.out _).setCell HGW.out _).setCell HGW.out _⟩
    | false =>
      replace HC : Hid (FC = zeroCell) := by rw [HC.out, outC, hs]; rfl
      replace HE : Hid (FE = 20) := by rw [HE.out, outE, hs]; rfl
      simp only [outC, outE, hs, Bool.false_eq_true, if_false]
      clear hs
      go_wp2_with fail
      refine bodyPost_ret (v := .tuple #[zeroCell, .int .i64 20]) (results_row_tmp rfl _ _ (g + 3) 26 _ (0, 0) _ rfl (set5 RR.out) Try.underlying26 rfl (by kernel_rfl) rfl) rfl ?_
      exact ⟨by rw [HC.out, HE.out], ((((HB.out.setCell HGW.out _).setCell HGW.out _).setCell HGW.out _).setCell HGW.out _).setCell HGW.out _⟩
  · have HC : Hid (FC = zeroCell) := by show _ = _; rw [← hFC.out, mergeC, if_neg (fun h => h0 (hr.out.symm.trans h))]
    have HE : Hid (FE = r) := by show _ = _; rw [← hFE.out, mergeE, if_neg (fun h => h0 (hr.out.symm.trans h)), hr.out]
    obtain ⟨e0, e1, e2, e3, e4⟩ := cell_row5 RR.out
    have f1 := frozen_row RR.out
    dsimp only at e0 e1 e2 e3 e4
    clear CB hr hFC hFE
    go_wp2_with fail
    refine bodyPost_ret (v := .tuple #[zeroCell, .int .i64 r]) (results_row_tmp rfl _ _ (g + 3) 26 _ (0, 0) _ rfl (set5 RR.out) Try.underlying26 rfl (by kernel_rfl) rfl) rfl ?_
    exact ⟨by rw [HC.out, HE.out], ((((HB.out.setCell HGW.out _).setCell HGW.out _).setCell HGW.out _).setCell HGW.out _).setCell HGW.out _⟩

end Go.Proofs.Ytieaobeidlhefaa
