/- It plays no part in which order numbers are added: turned round they come to the same, what they are together. Of up to sixty numbers of 32 bits. -/
import Derived.Test.YtieaobeidlhefaaRows
import Derived.Test.YtieaobeidlhefaaLaw
import Derived.Test.YtieaobeidlhefaaCntLaw
import Derived.Test.YtieaobeidlhefaaCellOpen
namespace Go.Proofs.Ytieaobeidlhefaa.countOrder
open Go.ChangeShapes Go.WideShapes Go.ChangeAt Go.RowKit Go.ChangeMaps

set_option maxRecDepth 100000 in
set_option maxHeartbeats 12800000 in
theorem walk (A : Option Addr) (n c : Nat) (l : List Int) (w : World) (ha : Rd w A n c (vals .i32 l)) (hl : ∀ x ∈ l, -2147483648 ≤ x ∧ x ≤ 2147483647) :
    Calls Try.prog 12 #[.slice A n c] w fun e w' => e = .returned (.bool true) ∧ Below w.heap.size w w' := by
  have HB := Lib.hid (Below.refl w.heap.size w)
  by_cases hn : n ≤ 60
  · have hn6 : ¬ (60 : Int) < (n : Int) := by omega
    have hle := ha.le
    have HLL : Hid (l.length = n) := by show _ = _; simpa using ha.len
    have HA := Lib.hid ha; have HIN := Lib.hid hl
    have hsb : Hid (∀ k, k ≤ n → -9223372036854775808 ≤ (l.drop k).sum ∧ (l.drop k).sum ≤ 9223372036854775807) := by
      intro k hk
      have h1 := sum_bound (l.drop k) fun x hx => hl x (List.mem_of_mem_drop hx)
      have h2 : (l.drop k).length ≤ 60 := by rw [List.length_drop, HLL.out]; omega
      omega
    obtain ⟨s, hs⟩ : ∃ s, l.sum = s := ⟨_, rfl⟩
    have HSS := Lib.hid hs
    have hb0 := sum_bound l hl
    have hl60 : l.length ≤ 60 := by rw [HLL.out]; exact hn
    have HOK : Hid (okC s = true) := okC_of (by rw [← hs]; omega)
    have M1 : Hid (∀ W : World, Below w.heap.size w W → Calls Try.prog 47 #[cntV 0, .slice A n c] W fun e w' => e = .returned (.tuple #[cntV s, .bool true]) ∧ Below W.heap.size W w') := by
      intro W hW
      have := cntMade_any 0 A n c l W (ha.below hW) hl hn (by omega)
      rwa [Int.zero_add, hs] at this
    have M2 : Hid (∀ (B : Option Addr) (d : Nat) (W : World), Rd W B n d (vals .i32 l.reverse) → Calls Try.prog 47 #[cntV 0, .slice B n d] W fun e w' => e = .returned (.tuple #[cntV s, .bool true]) ∧ Below W.heap.size W w') := by
      intro B d W hW
      have := cntMade_any 0 B n d l.reverse W hW (fun x hx => hl x (List.mem_reverse.1 hx)) hn (by omega)
      rwa [Int.zero_add, List.sum_reverse, hs] at this
    have HN := Lib.hid hn
    have EQ := run_equalIn_val 1 s 1 s noS noS
    rw [sameZ_self] at EQ
    clear ha hl hb0 hl60 hs hn
    go_enter Try.func12, Try.ntmps12
    go_wp2_with fail
    refine (cntAwake_any _).mono ?_
    rintro e w1 ⟨rfl, bb⟩
    replace HB := Lib.hid (below_then HB.out bb)
    clear bb
    have hi32 : (Try.prog.info? 21).map (fun i => (i.zero, i.size, i.bytes)) = some (some (.int .i32 0), 1, 4) := by kernel_rfl
    have HI := Lib.hid hi32
    clear hi32
    go_wp2_with fail
    go_loopw [4, 5, 6] (fun v4 v5 v6 wr => ∃ (k : Nat) (S : Int), k ≤ n ∧ v6 = .int .i64 ((k : Int) - 1) ∧ v5 = .int .i64 S ∧ Hid ((l.drop k).sum = S) ∧ Hid (wr.ownsRow w.heap.size 21 1 v4 (n - k) (vals .i32 (l.drop k).reverse)) ∧ Hid (Below w.heap.size w wr)) (fun _ _ v6 _ => (intOf v6 + 1).toNat)
    case atStart => exact ⟨n, 0, Nat.le_refl _, rfl, rfl, by rw [List.drop_of_length_le (by rw [HLL.out]; exact Nat.le_refl _)]; rfl, by rw [List.drop_of_length_le (by rw [HLL.out]; exact Nat.le_refl _), Nat.sub_self]; exact ⟨rfl, .inl ⟨rfl, rfl⟩⟩, HB⟩
    case round =>
      obtain ⟨k, S, hk, rfl, rfl, hS, hown, hbel⟩ := hrel
      cases k with
      | succ j =>
        have ej : ((j + 1 : Nat) : Int) - 1 = (j : Int) := by omega
        rw [ej]
        clear ej
        obtain ⟨b, o, x, rfl, hb, hx, hc⟩ := HA.out.at_ (show j < n by omega)
        have d0 := (hbel.out.cell (p := ⟨b, o + j, none⟩) hb).trans hc
        obtain ⟨y, hy, rfl⟩ : ∃ y, l[j]? = some y ∧ x = .int .i32 y := by
          simp only [vals, List.getElem?_map, Option.map_eq_some_iff] at hx
          obtain ⟨y, h1, h2⟩ := hx
          exact ⟨y, h1, h2.symm⟩
        have HC := Lib.hid hc
        have hyb := HIN.out y (List.mem_of_getElem? hy)
        have hsum : Hid ((l.drop j).sum = S + y) := by show _ = _; rw [cdrop_at hy, List.sum_cons, hS.out]; omega
        have hrev : Hid (vals .i32 (l.drop j).reverse = vals .i32 (l.drop (j + 1)).reverse ++ [.int .i32 y]) := by
          show _ = _
          rw [cdrop_at hy, List.reverse_cons, vals, List.map_append]; rfl
        have hw1 : IntKind.i64.wrap (S + y) = S + y := wrap_is (by have := hsb.out j (by omega); rw [hsum.out] at this; exact this)
        have hw2 : IntKind.i64.wrap y = y := wrap_is (by omega)
        have hw3 : IntKind.i64.wrap ((j : Int) - 1) = (j : Int) - 1 := wrap_is (by omega)
        have hjn : (j : Int) < (n : Int) := by omega
        have hj0 : (0 : Int) ≤ (j : Int) := by omega
        have hsz : Hid (n - (j + 1) < 17179869184) := by have := HN.out; show _ < _; omega
        clear hx hy hyb hc
        go_wp2_with (at_builtin; refine wpList_push rfl (.tmp 23) (.tmp 28) _ rfl 21 Try.underlying65 _ 4 HI.out rfl (by decide) w.heap.size _ _ _ (.int .i32 y) rfl rfl hown.out rfl hsz.out hbel.out hbel.out.size ?_; intro v1 w2 hown1 hbel1 _; have d1 := (hbel1.cell (p := ⟨b, o + j, none⟩) hb).trans HC.out; have HO1 := Lib.hid hown1; have HB1 := Lib.hid hbel1; clear hown1 hbel1)
        refine ⟨⟨j, S + y, by omega, rfl, rfl, hsum, ?_, HB1⟩, by simp [intOf]⟩
        show World.ownsRow _ _ _ _ _ _ _
        rw [show n - j = n - (j + 1) + 1 by omega, hrev.out]
        exact HO1.out
      | zero =>
        have ej : ((0 : Nat) : Int) - 1 = -1 := by omega
        rw [ej]
        clear ej
        obtain rfl : s = S := by rw [← HSS.out, ← hS.out]; rfl
        obtain ⟨B, d, rfl, hrd⟩ := Rd.of_own hown.out
        rw [Nat.sub_zero] at hrd ⊢
        have RB := Lib.hid (show Rd wr B n d (vals .i32 l.reverse) from hrd)
        replace HB := hbel
        clear hown hS hrd hbel
        go_wp2_with fail
        refine (cntNew_any _).mono ?_
        rintro e w2 ⟨rfl, bb⟩
        replace RB := Lib.hid (RB.out.below bb)
        replace HB := Lib.hid (below_then HB.out bb)
        clear bb
        go_wp2_with fail
        refine (M1.out _ HB.out).mono ?_
        rintro e w3 ⟨rfl, bb⟩
        replace RB := Lib.hid (RB.out.below bb)
        replace HB := Lib.hid (below_then HB.out bb)
        clear bb
        obtain ⟨w4, hw⟩ : ∃ w', w' = w3.alloc (cntRow s) := ⟨_, rfl⟩
        have RA : Hid (w4.heap[w3.heap.size]? = some (cntRow s)) := by rw [hw]; exact heap_alloc_new _ _
        have bb : Below w3.heap.size w3 w4 := by rw [hw]; exact below_new (Below.refl _ _) _
        replace hw := Lib.hid hw
        replace RB := Lib.hid (RB.out.below bb)
        replace HB := Lib.hid (below_then HB.out bb)
        clear bb
        go_upto_region 12 with fail
        rw [show w3.alloc (Obj.cells #[Value.int .i64 2, .int .i64 1, .int .i64 s, .string ⟨#[]⟩, .slice none 0 0] 26) = w4 from hw.out.symm]
        clear hw
        generalize w3.heap.size = gRA at RA ⊢
        go_wp2_with fail
        refine (cntNew_any _).mono ?_
        rintro e w5 ⟨rfl, bb⟩
        replace RA := Lib.hid (row_below RA.out bb)
        replace RB := Lib.hid (RB.out.below bb)
        replace HB := Lib.hid (below_then HB.out bb)
        clear bb
        go_wp2_with fail
        refine (M2.out _ _ _ RB.out).mono ?_
        rintro e w6 ⟨rfl, bb⟩
        replace RA := Lib.hid (row_below RA.out bb)
        replace RB := Lib.hid (RB.out.below bb)
        replace HB := Lib.hid (below_then HB.out bb)
        clear bb
        obtain ⟨w7, hw⟩ : ∃ w', w' = w6.alloc (cntRow s) := ⟨_, rfl⟩
        have RC : Hid (w7.heap[w6.heap.size]? = some (cntRow s)) := by rw [hw]; exact heap_alloc_new _ _
        have bb : Below w6.heap.size w6 w7 := by rw [hw]; exact below_new (Below.refl _ _) _
        replace hw := Lib.hid hw
        replace RA := Lib.hid (row_below RA.out bb)
        replace RB := Lib.hid (RB.out.below bb)
        replace HB := Lib.hid (below_then HB.out bb)
        clear bb
        go_upto_region 13 with fail
        rw [show w6.alloc (Obj.cells #[Value.int .i64 2, .int .i64 1, .int .i64 s, .string ⟨#[]⟩, .slice none 0 0] 26) = w7 from hw.out.symm]
        clear hw
        generalize w6.heap.size = gRC at RC ⊢
        obtain ⟨RA0, RA1, RA2, RA3, RA4⟩ := cell_row5 RA.out
        try dsimp only at RA0 RA1 RA2 RA3 RA4
        obtain ⟨RC0, RC1, RC2, RC3, RC4⟩ := cell_row5 RC.out
        try dsimp only at RC0 RC1 RC2 RC3 RC4
        go_wp2_with fail
        refine (same_self _ _ _ _ _).mono ?_
        rintro e w8 ⟨rfl, bb⟩
        replace RA := Lib.hid (row_below RA.out bb)
        replace RC := Lib.hid (row_below RC.out bb)
        replace RB := Lib.hid (RB.out.below bb)
        replace HB := Lib.hid (below_then HB.out bb)
        clear bb
        clear RA0 RA1 RA2 RA3 RA4 RC0 RC1 RC2 RC3 RC4
        obtain ⟨RA0, RA1, RA2, RA3, RA4⟩ := cell_row5 RA.out
        try dsimp only at RA0 RA1 RA2 RA3 RA4
        go_wp2_with fail
        refine (cntShow_is s _ HOK.out).mono ?_
        rintro e w9 ⟨rfl, bb⟩
        replace RA := Lib.hid (row_below RA.out bb)
        replace RC := Lib.hid (row_below RC.out bb)
        replace RB := Lib.hid (RB.out.below bb)
        replace HB := Lib.hid (below_then HB.out bb)
        clear bb
        go_wp2_with fail
        go_ret
        exact ⟨rfl, HB.out⟩
  · have hn6 : (60 : Int) < (n : Int) := by omega
    clear hn ha hl
    go_enter Try.func12, Try.ntmps12
    go_wp2_with fail
    refine (cntAwake_any _).mono ?_
    rintro e w1 ⟨rfl, bb⟩
    replace HB := Lib.hid (below_then HB.out bb)
    clear bb
    go_wp2_with fail
    go_ret
    exact ⟨rfl, HB.out⟩

set_option maxRecDepth 100000 in
theorem contract (H : Type) (enc : TypeId × Value → H) (W : World) (base : Nat) (args : Array Value) (ds gs : List (DataW H)) (before : List MemPlace)
    (hval : ∀ (j : Nat) t v, Try.f12.params[j]? = some t → args[j]? = some v → Value.okWide Try.prog W .any base t v)
    (hW : DataW.Whole enc Try.prog Try.f12.params.toList Rows.countOrderSpec.vars false W args.toList ds gs before) :
    Calls Try.prog 12 args W fun e W' => ∃ v, e = .returned v ∧ Rows.countOrderSpec.post enc Try.prog Try.f12 false true false false W args v W' := by
  have hlt : ∀ x ∈ before, x.block < W.heap.size := fun x hx => by simpa using hW.lt x hx
  refine law_step 4 Try.laid_ (by kernel_rfl) rfl Try.underlying4 rfl hW (fun xs hx => ?_) ?_
  · match xs, hx with
    | [d0], _ => rfl
  · obtain ⟨p, q, hA0, hV, rfl, _, _⟩ := hW
    have hA : DataW.TrodAll enc Try.prog W 0 (fun _ => true) true Try.f12.params.toList args.toList ds p := hA0
    rw [Try.params12] at hA hval
    obtain ⟨v0, vs0, d0, ds0, p0, q0, e0, rfl, rfl, h0, r0⟩ := trodAll_cons hA
    obtain ⟨rfl, rfl, rfl⟩ := trodAll_nil r0
    obtain rfl : args = #[v0] := by cases args; simp_all
    clear e0 hA0
    obtain ⟨A0, n0, c0, l, rfl, rd0, wf0⟩ := open_sl (k := .i32) Try.underlying65 Try.underlying21 (by kernel_rfl) (hval 0 65 v0 rfl rfl) h0 (fun x hx => hlt x (by simp [hx]))
    exact walk A0 n0 c0 l W rd0 (fun x hx => wf_i32r (wf0 x hx))

set_option maxRecDepth 100000 in
theorem lifted (os : Os) (started : os.Started) (H : Type) (enc : TypeId × Value → H) :
    ReturnsInHanded {} Try.checked os 12 .any (Rows.countOrderSpec.pre6 enc Try.prog Try.f12 Rows.countOrderRow.domain false) (Rows.countOrderSpec.post enc Try.prog Try.f12 false true false false) := by
  refine returnsInHanded_of_change (C := Try.checked) Try.own_ started (by kernel_rfl) Try.func12
    (ChangeSpec.witness6 (enc := enc) (C := Try.checked) false ⟨#[], #[.slice none 0 0], []⟩ 8 (by kernel_rfl) (by kernel_rfl) (by kernel_rfl) (by kernel_rfl)) ?_
  intro W base args ds gs before hval hW _ _
  exact contract H enc W base args ds gs before hval hW

theorem holds : Rows.CountOrderSaid :=
  OpenClaim.holds_of_wide 12 Try.f12 rfl rfl rfl rfl rfl rfl rfl ⟨rfl, rfl, rfl, rfl, rfl⟩ rfl rfl rfl rfl rfl (by kernel_rfl) Try.func12 (by kernel_rfl)
    (of_decide_eq_true (by kernel_rfl)) (by unfold Func.isWrapper; first | (rw [if_pos (by decide +kernel)]; kernel_rfl) | (rw [if_neg (by decide +kernel)]; exact ⟨rfl, rfl⟩))
    (fun os started H enc _ => lifted os started H enc)
end Go.Proofs.Ytieaobeidlhefaa.countOrder
