/- Layer 4: the order of stamps: the document's answer. -/
import Derived.Test.YthhacniljipegaaClkOrd
import Derived.Test.YthhacniljipegaaMem2
namespace Go.Proofs.Ythhacniljipegaa
set_option maxRecDepth 100000
open Go.RowKit Srt

/-- the first k places, in order -/
def ordK (l : List S3) (k : Nat) : List (Fin l.length) := isort (ltP l) ((List.finRange l.length).take k)
theorem ordK_len (l : List S3) {k : Nat} (h : k ≤ l.length) : (ordK l k).length = k := by
  rw [ordK, isort_len, List.length_take, List.length_finRange]; omega
theorem ordK_step (l : List S3) {k : Nat} (h : k < l.length) : ordK l (k + 1) = merge (ltP l) (ordK l k) [⟨k, h⟩] := by
  rw [ordK, List.take_succ_eq_append_getElem (by simpa using h), isort_snoc, List.getElem_finRange]
  rfl
theorem ordK_all (l : List S3) : ordK l l.length = ordP l := by
  rw [ordK, List.take_of_length_le (by simp)]; rfl

theorem run_uptoI {A : Option Addr} {n c m : Nat} (h : m ≤ c) (W : World) : (Instr.slice 33 (.slice A n c) none (some (.int .i64 m)) none).run Try.prog W = .ok (.slice A m c) W := by
  have hz : (sizeOf (Try.prog.elem 33)).run Try.prog W = .ok 1 W := by kernel_rfl
  have ht : Try.prog.underlying 33 = some (.slice (Try.prog.elem 33)) := by kernel_rfl
  rw [run_slice_h (P := Try.prog) (w := W) (t := 33) (a := A) (len := n) (cap := c) (ht := ht) (kh := .i64) (h := m) (h0 := by omega) (h2 := by omega), hz]
  have ha : A.map (·.add (0 * 1)) = A := by cases A <;> simp [Addr.add]
  simp only [Result.andThen, sliced, ha, Int.toNat_natCast, Nat.sub_zero, ite_self]
theorem run_fromI {A : Option Addr} {n c m : Nat} (h : m ≤ n) (W : World) : (Instr.slice 33 (.slice A n c) (some (.int .i64 m)) none none).run Try.prog W = .ok (.slice (if c = m then A else A.map (·.add m)) (n - m) (c - m)) W := by
  have hz : (sizeOf (Try.prog.elem 33)).run Try.prog W = .ok 1 W := by kernel_rfl
  have ht : Try.prog.underlying 33 = some (.slice (Try.prog.elem 33)) := by kernel_rfl
  rw [run_slice_l (P := Try.prog) (w := W) (t := 33) (a := A) (len := n) (cap := c) (ht := ht) (kl := .i64) (l := m) (h0 := by omega) (h1 := by omega), hz]
  simp [Result.andThen, sliced]

/-- numbers behind a row of the call's own, at a step of a region that draws its order -/
theorem step_ints {w W0 : World} {ops : Array Oper} {o : Oper} {a : Act} {K : Act → World → Prop} {Q : Exit → Act → World → Prop} {E : Prop} (hgd : o.guard = none) (s x : Operand)
    (ho : o.op = .call { callee := .builtin .append, args := #[s, x], argTypes := #[33, 33] })
    (base : Nat) (v : Value) (n : Nat) (xs : List Int) (B : Option Addr) (m c : Nat) (news : List Int) (hx : a.eval x = .slice B m c) (hs : a.eval s = v)
    (hown : w.ownsRow base 3 1 v n (vals .i64 xs)) (hrd : Rd w B m c (vals .i64 news)) (hn : n + m ≤ 17179869184) (hbel : Below base W0 w) (hbase : base ≤ w.heap.size)
    (h : ∀ A' c' w', w'.ownsRow base 3 1 (.slice A' (n + m) c') (n + m) (vals .i64 (xs ++ news)) → Rd w' A' (n + m) c' (vals .i64 (xs ++ news)) → Below base W0 w' → base ≤ w'.heap.size → K (a.put o.dst (.slice A' (n + m) c')) w') :
    if Region.wanted o (yielded ops a.tmps) = true then Oper.wp Try.prog o a w K Q else E := by
  have hw : Region.wanted o (yielded ops a.tmps) = true := by simp [Region.wanted, hgd]
  rw [if_pos hw]
  obtain ⟨v', w', hr, h2, h3, h4⟩ := run_app (P := Try.prog) 33 o.type 3 Try.underlying33 (.int .i64 0) 8 Try.infoInt rfl (by decide) base v n (vals .i64 xs) B m c (vals .i64 news) hown hrd (vals_one _ _) hn hbel hbase
  unfold Oper.wp execOp
  simp only [ho, resolve, invoke, builtin, Sem.run_bind, Sem.run_pure, Result.andThen_ok, List.map_toArray, List.map_cons, List.map_nil, hs, hx, hr]
  obtain ⟨A', c', rfl, hrd'⟩ := Rd.of_own h2
  rw [show vals .i64 xs ++ vals .i64 news = vals .i64 (xs ++ news) by simp [vals]] at h2 hrd'
  exact h _ _ _ h2 hrd' h3 h4

theorem own_empty {W : World} {base g : Nat} {e : TypeId} (h : W.heap[g]? = some (.cells #[] e)) (hb : base ≤ g) : W.ownsRow base e 1 (.slice (some ⟨g, 0, none⟩) 0 0) 0 (vals .i64 []) :=
  ⟨rfl, .inr ⟨g, 0, #[], rfl, hb, h, Nat.le_refl _, Nat.zero_le _, rfl, rfl⟩⟩

/-- .. behind an empty one: what else there is stays as it is -/
theorem step_first {w : World} {ops : Array Oper} {o : Oper} {a : Act} {K : Act → World → Prop} {Q : Exit → Act → World → Prop} {E : Prop} (hgd : o.guard = none) (s x : Operand)
    (ho : o.op = .call { callee := .builtin .append, args := #[s, x], argTypes := #[33, 33] })
    (base g : Nat) (B : Option Addr) (m c : Nat) (news : List Int) (hx : a.eval x = .slice B m c) (hs : a.eval s = .slice (some ⟨g, 0, none⟩) 0 0)
    (hg : w.heap[g]? = some (.cells #[] 3)) (hb : base ≤ g) (hrd : Rd w B m c (vals .i64 news)) (hn : m ≤ 4294967296)
    (h : ∀ A' c' w', w'.ownsRow base 3 1 (.slice A' m c') m (vals .i64 news) → Rd w' A' m c' (vals .i64 news) → Below w.heap.size w w' → K (a.put o.dst (.slice A' m c')) w') :
    if Region.wanted o (yielded ops a.tmps) = true then Oper.wp Try.prog o a w K Q else E := by
  have hw : Region.wanted o (yielded ops a.tmps) = true := by simp [Region.wanted, hgd]
  rw [if_pos hw]
  have hgl : g < w.heap.size := (Array.getElem?_eq_some_iff.1 hg).1
  obtain ⟨v', w', hr, h2, _, _⟩ := run_app (P := Try.prog) (w := w) (W0 := w) 33 o.type 3 Try.underlying33 (.int .i64 0) 8 Try.infoInt rfl (by decide) base _ 0 (vals .i64 []) B m c (vals .i64 news) (own_empty hg hb) hrd (vals_one _ _) (by omega) (Below.refl _ _) (by omega)
  obtain ⟨A2, c2, w2, hr2, _, b2⟩ := run_full (P := Try.prog) (w := w) 33 o.type 3 Try.underlying33 (.int .i64 0) 8 Try.infoInt rfl (by decide) (some ⟨g, 0, none⟩) 0 [] B m c (vals .i64 news) (Rd.empty_ _ _ (by simp [maxLen])) hrd (by omega)
  rw [hr] at hr2
  injection hr2 with hv hw'
  subst hw'
  unfold Oper.wp execOp
  simp only [ho, resolve, invoke, builtin, Sem.run_bind, Sem.run_pure, Result.andThen_ok, List.map_toArray, List.map_cons, List.map_nil, hs, hx, hr]
  obtain ⟨A', c', rfl, hrd'⟩ := Rd.of_own h2
  simp only [Nat.zero_add, vals, List.map_nil, List.nil_append] at h2 hrd'
  rw [Nat.zero_add]
  exact h _ _ _ h2 hrd' b2

set_option maxHeartbeats 3200000 in
theorem refClkOrder_any (A : Option Addr) (n c : Nat) (l : List S3) (w : World) (h : RdS w A n c l) (hn : n ≤ 4294967296) :
    Calls Try.prog 18 #[.slice A n c] w fun e w' => ∃ A' c', e = .returned (.slice A' n c') ∧ Rd w' A' n c' (vals .i64 (ordZ l)) ∧ Below w.heap.size w w' := by
  have hl := h.len
  have HH := Lib.hid h; have HL := Lib.hid hl
  have P := Lib.hid (fun a b W => refClkLess_any a b W)
  clear h hl
  go_enter Try.func18, Try.ntmps18
  go_wp2_with fail
  go_loopw [3, 4] (fun o v wr => ∃ (k : Nat) (Ao : Option Addr) (co : Nat), k ≤ n ∧ v = .int .i64 k ∧ o = .slice Ao k co ∧ Hid (Rd wr Ao k co (vals .i64 ((ordK l k).map numP))) ∧ Below w.heap.size w wr) (fun _ v _ => n - (intOf v).toNat)
  case atStart => exact ⟨0, none, 0, Nat.zero_le _, rfl, rfl, Lib.hid (Rd.nil_ w), Below.refl _ _⟩
  case round =>
    obtain ⟨k, Ao, co, hk, rfl, rfl, HR, B1⟩ := hrel
    obtain ⟨w1, rfl⟩ : ∃ w1, w1 = wr := ⟨_, rfl⟩
    by_cases hlt : k < n
    · have hlz : (k : Int) < (n : Int) := by omega
      obtain ⟨O, hO, lO⟩ : ∃ O, Hid (O = ordK l k) ∧ Hid (O.length = k) := ⟨_, rfl, ordK_len l (by have := HL.out; omega)⟩
      obtain ⟨x, hx⟩ : ∃ x : Fin l.length, Hid (x.val = k) := ⟨⟨k, by have := HL.out; omega⟩, rfl⟩
      have HS := Lib.hid (isort_sorted (ltP_weak l) ((List.finRange l.length).take k))
      rw [show isort (ltP l) ((List.finRange l.length).take k) = O from hO.out.symm] at HS
      rw [← hO.out] at HR
      have hco := HR.out.cap
      have hcm := HR.out.2.2.1
      go_upto_block 2 with (fail)
      go_cut [5] (fun v W => ∃ m : Nat, v = .int .i64 m ∧ m ≤ k ∧ Hid (∀ u ∈ O.take m, ltP l x u = false) ∧ Hid (∀ u ∈ O.drop m, ltP l x u = true) ∧ Below w1.heap.size w1 W)
      case first => as_aux_lemma =>
        go_wp2_with fail
        go_loopw [5] (fun v W => ∃ m : Nat, v = .int .i64 m ∧ m ≤ k ∧ Hid (∀ u ∈ O.drop m, ltP l x u = true) ∧ Below w1.heap.size w1 W) (fun v _ => (intOf v).toNat)
        case atStart => exact ⟨k, rfl, Nat.le_refl _, by intro u hu; have := lO.out; rw [List.drop_of_length_le (by omega)] at hu; simp at hu, Below.refl _ _⟩
        case round =>
          obtain ⟨m, rfl, hm, hG, B2⟩ := hrel
          by_cases hm0 : 0 < m
          · have hmz : (0 : Int) < (m : Int) := by omega
            obtain ⟨m1, hm1⟩ : ∃ m1, Hid (m = m1 + 1) := ⟨m - 1, by show _ = _; omega⟩
            obtain ⟨y, hy⟩ : ∃ y : Fin l.length, Hid (O[m1]? = some y) := by
              have h1 := lO.out; have h2 := hm1.out
              exact ⟨O[m1]'(by omega), List.getElem?_eq_getElem (by omega)⟩
            obtain ⟨j, hj, hjn⟩ : ∃ j : Nat, Hid (y.val = j) ∧ j < n := ⟨y.val, rfl, by have := HL.out; have := y.isLt; omega⟩
            have hRk := (HH.out.below B1)
            obtain ⟨b1, o1, sx, rfl, hb1, hsx, hld⟩ := hRk.stamp (k := k) hlt
            obtain ⟨b1', o1', sy, e2, _, hsy, hld2⟩ := hRk.stamp (k := j) hjn
            injection e2 with e2
            injection e2 with e3 e4
            subst e3 e4
            obtain ⟨b2, o2, u, rfl, hb2, hu, hcu⟩ := HR.out.at_ (k := m1) (by have := hm1.out; omega)
            have huj : u = .int .i64 (j : Int) := by
              have h1 := hy.out; have h2 := hj.out
              rw [vals, List.map_map, List.getElem?_map, h1] at hu
              simp only [Option.map_some, Option.some.injEq, Function.comp] at hu
              rw [← hu, numP, h2]
            subst huj
            have HLT : Hid (lessS sx sy = ltP l x y) := by
              show _ = _
              have h1 := hx.out; have h2 := hj.out
              subst h1 h2
              rw [List.getElem?_eq_getElem x.isLt] at hsx
              rw [List.getElem?_eq_getElem y.isLt] at hsy
              injection hsx with hsx; injection hsy with hsy
              rw [← hsx, ← hsy]; rfl
            have K : Hid (∀ W, Below w1.heap.size w1 W → Below w1.heap.size w1 W ∧ W.cell? ⟨b1, o1 + k * 3, none⟩ = some (.int .i64 sx.t) ∧ W.cell? ⟨b1, o1 + k * 3 + 1, none⟩ = some (.int .i64 sx.d) ∧ W.cell? ⟨b1, o1 + k * 3 + 2, none⟩ = some (.int .i64 sx.q) ∧ W.cell? ⟨b1, o1 + j * 3, none⟩ = some (.int .i64 sy.t) ∧ W.cell? ⟨b1, o1 + j * 3 + 1, none⟩ = some (.int .i64 sy.d) ∧ W.cell? ⟨b1, o1 + j * 3 + 2, none⟩ = some (.int .i64 sy.q) ∧ W.cell? ⟨b2, o2 + m1, none⟩ = some (.int .i64 (j : Int))) := by
              intro W hW
              obtain ⟨a1, a2, a3⟩ := hld W hW
              obtain ⟨a4, a5, a6⟩ := hld2 W hW
              exact ⟨hW, a1, a2, a3, a4, a5, a6, (hW.cell (p := ⟨b2, o2 + m1, none⟩) hb2).trans hcu⟩
            have hbd := B2.drew
            clear hRk hsx hsy hld hld2 hu hcu hb1 hb2
            have q1 : (0 : Int) ≤ (m : Int) - 1 := by omega
            have q2 : (m : Int) - 1 < (k : Int) := by omega
            have q3 : ((m : Int) - 1).toNat = m1 := by have := hm1.out; omega
            have q4 : IntKind.i64.wrap ((m : Int) - 1) = (m : Int) - 1 := wrap_is (by omega)
            have q6 : m ≤ k := hm
            have q8 : (1 : Int) ≤ (m : Int) := by omega
            have q9 : (j : Int) < (n : Int) := by omega
            have PC := Lib.hid (fun W => P.out sx sy W)
            rw [HLT.out] at PC
            cases hv : ltP l x y with
            | true =>
              rw [hv] at PC
              go_wp2_with fail
              go_region_held3 (fun W => Below w1.heap.size w1 W ∧ W.cell? ⟨b1, o1 + k * 3, none⟩ = some (.int .i64 sx.t) ∧ W.cell? ⟨b1, o1 + k * 3 + 1, none⟩ = some (.int .i64 sx.d) ∧ W.cell? ⟨b1, o1 + k * 3 + 2, none⟩ = some (.int .i64 sx.q) ∧ W.cell? ⟨b1, o1 + j * 3, none⟩ = some (.int .i64 sy.t) ∧ W.cell? ⟨b1, o1 + j * 3 + 1, none⟩ = some (.int .i64 sy.d) ∧ W.cell? ⟨b1, o1 + j * 3 + 2, none⟩ = some (.int .i64 sy.q) ∧ W.cell? ⟨b2, o2 + m1, none⟩ = some (.int .i64 (j : Int)))
                (first
                  | (refine K.out _ ?_; go_split_ands; exact below_then (by assumption) bb)
                  | (refine K.out _ ?_; go_split_ands; assumption)
                  | (refine K.out _ ?_; go_split_ands; exact Below.drew (by assumption)))
                (first
                  | (go_at_call 13; refine (PC.out _).mono ?_; rintro e wx ⟨rfl, bb⟩))
              all_goals
                have B3 := below_then hbd bb
                have hG2 := Lib.hid (all_behind (ltP_weak l) HS.out hy.out hv)
                go_wp2
                exact ⟨⟨m1, by have := hm1.out; go_num, by have := hm1.out; omega, hG2, B3⟩, by have := hm1.out; simp [intOf]; omega⟩
            | false =>
              rw [hv] at PC
              go_wp2_with fail
              go_region_held3 (fun W => Below w1.heap.size w1 W ∧ W.cell? ⟨b1, o1 + k * 3, none⟩ = some (.int .i64 sx.t) ∧ W.cell? ⟨b1, o1 + k * 3 + 1, none⟩ = some (.int .i64 sx.d) ∧ W.cell? ⟨b1, o1 + k * 3 + 2, none⟩ = some (.int .i64 sx.q) ∧ W.cell? ⟨b1, o1 + j * 3, none⟩ = some (.int .i64 sy.t) ∧ W.cell? ⟨b1, o1 + j * 3 + 1, none⟩ = some (.int .i64 sy.d) ∧ W.cell? ⟨b1, o1 + j * 3 + 2, none⟩ = some (.int .i64 sy.q) ∧ W.cell? ⟨b2, o2 + m1, none⟩ = some (.int .i64 (j : Int)))
                (first
                  | (refine K.out _ ?_; go_split_ands; exact below_then (by assumption) bb)
                  | (refine K.out _ ?_; go_split_ands; assumption)
                  | (refine K.out _ ?_; go_split_ands; exact Below.drew (by assumption)))
                (first
                  | (go_at_call 13; refine (PC.out _).mono ?_; rintro e wx ⟨rfl, bb⟩))
              all_goals
                have B3 := below_then hbd bb
                have hL := Lib.hid (none_upto (ltP_weak l) HS.out hy.out hv)
                rw [← hm1.out] at hL
                go_wp2
                go_meet
                exact ⟨m, rfl, hm, hL, hG, B3⟩
          · have hmz : ¬ (0 : Int) < (m : Int) := by omega
            obtain rfl : m = 0 := by omega
            go_wp2
            go_meet
            exact ⟨0, rfl, Nat.zero_le _, by intro u hu; simp at hu, hG, B2⟩
      case rest =>
        obtain ⟨m, rfl, hm, hL, hG, B2⟩ := hcut
        have B3 := below_then B1 B2
        have RO := Lib.hid (HR.out.below B2)
        have e1 := fun W => run_uptoI (A := Ao) (n := k) (c := co) (m := m) (by omega) W
        obtain ⟨Af, hAf⟩ : ∃ Af, Hid (Af = if co = m then Ao else Ao.map (·.add m)) := ⟨_, rfl⟩
        have e2 : ∀ W : World, (Instr.slice 33 (.slice Ao k co) (some (.int .i64 m)) none none).run Try.prog W = .ok (.slice Af (k - m) (co - m)) W := fun W => by rw [hAf.out]; exact run_fromI hm W
        have RF : Hid (Rd wc Af (k - m) (co - m) (vals .i64 ((O.drop m).map numP))) := by
          have := RO.out.cut hm
          rw [hAf.out]
          show Rd _ _ _ _ _
          simpa [vals] using this
        have RU : Hid (Rd wc Ao m co (vals .i64 ((O.take m).map numP))) := by
          have := RO.out.upto hm (show m ≤ co by omega) (Nat.le_refl co)
          show Rd _ _ _ _ _
          simpa [vals] using this
        have RKa : Hid (∀ W : World, Rd (W.alloc (.cells #[.int .i64 (k : Int)] 3)) (some ⟨W.heap.size, 0, none⟩) 1 1 (vals .i64 [(k : Int)])) := fun W => rd_at W [.int .i64 (k : Int)] 3 rfl (show 1 ≤ 4294967296 by decide) rfl
        have RKb : Hid (Rd ((wc.alloc (.cells #[] 3)).alloc (.cells #[.int .i64 (k : Int)] 3)).drew (some ⟨wc.heap.size + 1, 0, none⟩) 1 1 (vals .i64 [(k : Int)])) := Rd.drew (rd_at (wc.alloc (.cells #[] 3)) [.int .i64 (k : Int)] 3 rfl (show 1 ≤ 4294967296 by decide) (by simp))
        have RKc : Hid (Rd ((wc.alloc (.cells #[.int .i64 (k : Int)] 3)).alloc (.cells #[] 3)).drew (some ⟨wc.heap.size, 0, none⟩) 1 1 (vals .i64 [(k : Int)])) := Rd.drew ((rd_at wc [.int .i64 (k : Int)] 3 rfl (show 1 ≤ 4294967296 by decide) rfl).alloc _)
        have hmk : m + 1 ≤ 17179869184 := by omega
        have hmk2 : m + 1 + (k - m) ≤ 17179869184 := by omega
        go_wp2_with fail
        go_region_held3 (fun W => Below wc.heap.size wc W)
          (first
            | exact Below.drew (Below.refl _ _)
            | exact below_new (Below.refl _ _).drew _
            | exact (below_new (Below.refl _ _) _).drew
            | exact (below_new (below_new (Below.refl _ _) _) _).drew
            | exact B4.out
            | exact below_new B4.out _
            | exact B7.out
            | exact B11.out)
          (first
            | (refine step_first (by rfl) (.tmp 32) (.tmp 35) (by rfl) wc.heap.size _ Ao m co _ (by rfl) (by rfl) ?_ ?_ (RU.out.below ?_) (by omega) ?_
               · (repeat (first | (refine heap_at ?_; first | done | (simp; done)) | refine heap_drew ?_ | (refine heap_past ?_ ?_; focus (first | done | (simp; done)))))
               · first | exact Nat.le_refl _ | (simp; done)
               · (repeat (first | exact Below.refl _ _ | refine below_new ?_ _ | refine Below.drew ?_))
               intro A4 c4 w4 o4 r4 b4
               have B4 : Hid (Below wc.heap.size wc w4) := below_then (by repeat (first | exact Below.refl _ _ | refine below_new ?_ _ | refine Below.drew ?_)) b4)
            | (refine step_ints (by rfl) (.tmp 36) (.tmp 38) (by rfl) wc.heap.size _ m _ _ 1 1 [(k : Int)] (by rfl) (by rfl) (o4.alloc _) (RKa.out _) hmk (below_new B4.out _) (below_new B4.out _).size ?_
               intro A7 c7 w7 o7 r7 b7 s7
               have B7 := Lib.hid b7)
            | (refine step_ints (by rfl) (.tmp 36) (.tmp 38) (by rfl) wc.heap.size _ m _ _ 1 1 [(k : Int)] (by rfl) (by rfl) o4 (RKb.out.below b4) hmk B4.out B4.out.size ?_
               intro A7 c7 w7 o7 r7 b7 s7
               have B7 := Lib.hid b7)
            | (refine step_ints (by rfl) (.tmp 36) (.tmp 38) (by rfl) wc.heap.size _ m _ _ 1 1 [(k : Int)] (by rfl) (by rfl) o4 (RKc.out.below b4) hmk B4.out B4.out.size ?_
               intro A7 c7 w7 o7 r7 b7 s7
               have B7 := Lib.hid b7)
            | (refine step_ints (by rfl) (.tmp 39) (.tmp 42) (by rfl) wc.heap.size _ (m + 1) _ Af (k - m) (co - m) _ (by rfl) (by rfl) o7 (RF.out.below B7.out) hmk2 B7.out B7.out.size ?_
               intro A11 c11 w11 o11 r11 b11 s11
               have B11 := Lib.hid b11))
        all_goals
          have B12 := below_then B3 b11
          have R12 := Lib.hid r11
          have hOK : Hid ((O.take m).map numP ++ [(k : Int)] ++ (O.drop m).map numP = (ordK l (k + 1)).map numP) := by
            show _ = _
            have h1 := HL.out; have h2 := hx.out
            have hxk : (⟨k, by omega⟩ : Fin l.length) = x := Fin.ext h2.symm
            rw [ordK_step l (by omega), hxk, ← hO.out]
            have h3 := merge_one (O.take m) (O.drop m) x hL.out hG.out
            rw [List.take_append_drop] at h3
            rw [h3]
            simp [numP, h2]
          rw [hOK.out] at R12
          have hkk : m + 1 + (k - m) = k + 1 := by omega
          rw [hkk] at R12 ⊢
          clear e1 e2 o4 r4 b4 o7 r7 b7 o11 r11 b11 s7 s11
          go_wp2
          exact ⟨⟨k + 1, _, _, by omega, by go_num, rfl, R12, B12⟩, by simp [intOf]; omega⟩
    · have hlz : ¬ (k : Int) < (n : Int) := by omega
      obtain rfl : k = n := by omega
      have hE : Hid ((ordK l k).map numP = ordZ l) := by
        show _ = _
        have := HL.out
        subst this
        rw [ordK_all]; rfl
      rw [hE.out] at HR
      go_wp2
      go_ret
      exact ⟨_, _, rfl, HR.out, B1⟩
end Go.Proofs.Ythhacniljipegaa
