/- The live question at the head of each statement of layer 2: it holds. -/
import Derived.Test.YtkicjhphiibifaaDoorValGet
import Derived.Test.YtkicjhphiibifaaDoorValRead2
import Derived.Deep.RegionHeld3
namespace Go.Proofs.YtkicjhphiibifaaDoor
set_option maxRecDepth 100000
open Go.RowKit

theorem num_any (n : Int) (w : World) : Calls Tryd.prog 24 #[.int .i64 n] w fun e w' => e = .returned (.agg #[.int .i64 1, .int .i64 n, .string ⟨#[]⟩]) ∧ Below w.heap.size w w' := by
  have hr := heap_alloc_new w (.cells #[.int .i64 0, .int .i64 0, .string ⟨#[]⟩] 23)
  have HR := Lib.hid hr; clear hr
  go_enter Tryd.func24, Tryd.ntmps24
  go_wp2
  refine bodyPost_ret (v := .agg #[.int .i64 1, .int .i64 n, .string ⟨#[]⟩]) (results_cell_row rfl _ _ w.heap.size 23 _ (0, 0) _ rfl (by first | exact heap_alloc_new _ _ | exact set3 HR.out) Tryd.underlying23 rfl (by kernel_rfl)) rfl ⟨rfl, by first | exact below_new (Below.refl _ _) _ | exact below_set3 (below_new (Below.refl _ _) _) (Nat.le_refl _)⟩
theorem str_any (s : ByteArray) (w : World) : Calls Tryd.prog 25 #[.string s] w fun e w' => e = .returned (.agg #[.int .i64 2, .int .i64 0, .string s]) ∧ Below w.heap.size w w' := by
  have hr := heap_alloc_new w (.cells #[.int .i64 0, .int .i64 0, .string ⟨#[]⟩] 23)
  have HR := Lib.hid hr; clear hr
  go_enter Tryd.func25, Tryd.ntmps25
  go_wp2
  refine bodyPost_ret (v := .agg #[.int .i64 2, .int .i64 0, .string s]) (results_cell_row rfl _ _ w.heap.size 23 _ (0, 0) _ rfl (by first | exact heap_alloc_new _ _ | exact set3 HR.out) Tryd.underlying23 rfl (by kernel_rfl)) rfl ⟨rfl, by first | exact below_new (Below.refl _ _) _ | exact below_set3 (below_new (Below.refl _ _) _) (Nat.le_refl _)⟩

/-- what is held from the start to a world on the way -/
structure Held (w W : World) : Prop where
  vars : Vars W
  bel : Below w.heap.size w W
theorem Held.next {w W W' : World} (h : Held w W) (b : Below W.heap.size W W') : Held w W' := ⟨h.vars.below b, below_then h.bel b⟩
theorem Held.drew {w W : World} (h : Held w W) : Held w W.drew := h.next (Below.refl _ _).drew
theorem Held.alloc {w W : World} (h : Held w W) (o : Obj) : Held w (W.alloc o) := h.next (below_new (Below.refl _ _) o)

theorem bytes1 : bytesZ 1 1 ⟨#[]⟩ = [1, 2] := by kernel_rfl
theorem shown1 : showB 2 0 ⟨#[105, 116, 39, 115]⟩ = ⟨#[39, 105, 116, 39, 39, 115, 39]⟩ := by decide
theorem read1 : readK [39, 105, 116, 39, 39, 115, 39] = 2 ∧ readN [39, 105, 116, 39, 39, 115, 39] = 0 ∧ readB ⟨#[39, 105, 116, 39, 39, 115, 39]⟩ = ⟨#[105, 116, 39, 115]⟩ ∧ readE [39, 105, 116, 39, 39, 115, 39] = 0 := by
  have h := readOk_of (k := 2) (n := 0) (s := [105, 116, 39, 115]) (l := [39, 105, 116, 39, 39, 115, 39]) (by decide) (by decide)
  exact ⟨h.2.1, h.2.2.1, by rw [readB, h.2.2.2.1], h.2.2.2.2⟩
theorem get5 : gvK [1, 2, 9] = 1 ∧ gvN [1, 2, 9] = 1 ∧ gvS [1, 2, 9] = ⟨#[]⟩ ∧ gvM [1, 2, 9] = 2 ∧ gvE [1, 2, 9] = 0 := by
  have h := gv_some (l := [1, 2, 9]) (by kernel_rfl)
  obtain ⟨a, b, c, d, e⟩ := h
  exact ⟨a.trans (by kernel_rfl), b.trans (by kernel_rfl), c.trans (by kernel_rfl), d.trans (by kernel_rfl), e⟩

set_option maxHeartbeats 6400000 in
theorem awake_any (w : World) (v : Vars w) : Calls Tryd.prog 9 #[] w fun e w' => e = .returned (.bool true) ∧ Below w.heap.size w w' := by
  have NUM : Hid (∀ n W, Calls Tryd.prog 24 #[.int .i64 n] W fun e w' => e = .returned (.agg #[.int .i64 1, .int .i64 n, .string ⟨#[]⟩]) ∧ Below W.heap.size W w') := Lib.hid num_any
  have STR : Hid (∀ s W, Calls Tryd.prog 25 #[.string s] W fun e w' => e = .returned (.agg #[.int .i64 2, .int .i64 0, .string s]) ∧ Below W.heap.size W w') := Lib.hid str_any
  have BY : Hid (∀ W, Calls Tryd.prog 22 #[.agg #[.int .i64 1, .int .i64 1, .string ⟨#[]⟩]] W (Fresh 5 .u8 [1, 2] W)) := Lib.hid fun W => by
    have := bytes_any 1 1 ⟨#[]⟩ W (by decide) (by decide) (by decide); rwa [bytes1] at this
  have GE : Hid (∀ W A, Rd W A 3 3 (vals .u8 [1, 2, 9]) → Calls Tryd.prog 20 #[.slice A 3 3] W fun e w' => e = .returned (.tuple #[.agg #[.int .i64 1, .int .i64 1, .string ⟨#[]⟩], .int .i64 2, .int .i64 0]) ∧ Below W.heap.size W w') := Lib.hid fun W A h => by
    have := valGet_any A 3 3 [1, 2, 9] W h (by decide) (by decide)
    obtain ⟨a, b, c, d, e⟩ := get5
    rwa [a, b, c, d, e] at this
  have RE : Hid (∀ W, Vars W → Calls Tryd.prog 18 #[.string ⟨#[39, 105, 116, 39, 39, 115, 39]⟩] W fun e w' => e = .returned (.tuple #[.agg #[.int .i64 2, .int .i64 0, .string ⟨#[105, 116, 39, 115]⟩], .int .i64 0]) ∧ Below W.heap.size W w') := Lib.hid fun W v => by
    have := read_any ⟨#[39, 105, 116, 39, 39, 115, 39]⟩ W (by decide) v
    obtain ⟨a, b, c, d⟩ := read1
    rw [c] at this
    rwa [show (⟨#[39, 105, 116, 39, 39, 115, 39]⟩ : ByteArray).data.toList = [39, 105, 116, 39, 39, 115, 39] from rfl, a, b, d] at this
  have SH : Hid (∀ W, Vars W → Calls Tryd.prog 16 #[.agg #[.int .i64 2, .int .i64 0, .string ⟨#[105, 116, 39, 115]⟩]] W fun e w' => e = .returned (.string ⟨#[39, 105, 116, 39, 39, 115, 39]⟩) ∧ Below W.heap.size W w') := Lib.hid fun W v => by
    have := show_any 2 0 ⟨#[105, 116, 39, 115]⟩ W (by decide) (by decide) (by decide) v; rwa [shown1] at this
  have LE : Hid (∀ k n k' n' s s' W, Calls Tryd.prog 12 #[.agg #[.int .i64 k, .int .i64 n, .string s], .agg #[.int .i64 k', .int .i64 n', .string s']] W fun e w' => e = .returned (.bool (lessZ k n s k' n' s')) ∧ Below W.heap.size W w') := Lib.hid less_any
  have hl1 : lessZ 0 0 ⟨#[]⟩ 1 (-5) ⟨#[]⟩ = true := by decide
  have hl2 : lessZ 1 (-5) ⟨#[]⟩ 2 0 ⟨#[]⟩ = true := by decide
  have RI : Hid (∀ W, Calls Tryd.prog 10 #[.agg #[.int .i64 1, .int .i64 5, .string ⟨#[]⟩]] W fun e w' => e = .returned (.bool true) ∧ Below W.heap.size W w') := Lib.hid fun W => right_any 1 5 ⟨#[]⟩ W (by decide)
  have SA : Hid (∀ W, Calls Tryd.prog 14 #[.agg #[.int .i64 1, .int .i64 5, .string ⟨#[]⟩], .agg #[.int .i64 1, .int .i64 5, .string ⟨#[]⟩]] W fun e w' => e = .returned (.bool true) ∧ Below W.heap.size W w') := Lib.hid fun W => valSame_any 1 5 1 5 ⟨#[]⟩ ⟨#[]⟩ W
  have H0 : Held w w := ⟨v, Below.refl _ _⟩
  go_enter Tryd.func9, Tryd.ntmps9
  go_wp2_with fail
  refine (NUM.out _ _).mono ?_
  rintro e w1 ⟨rfl, b1⟩
  have H1 := H0.next b1
  go_wp2_with fail
  refine (BY.out _).mono ?_
  rintro e w2 ⟨A2, c2, rfl, _, rd2, b2⟩
  have H2 := H1.next b2
  go_wp2_with fail
  refine (GE.out _ _ (rd_at _ (vals .u8 [1, 2, 9]) _ rfl (by decide) (by simp))).mono ?_
  rintro e w3 ⟨rfl, b3⟩
  have rd3 := ((rd2.alloc (.cells #[.int .u8 1, .int .u8 2, .int .u8 9] 5)).below b3).alloc (.cells #[.int .i64 1, .int .i64 1, .string ⟨#[]⟩] 23)
  have H3 := ((H2.alloc (.cells #[.int .u8 1, .int .u8 2, .int .u8 9] 5)).next b3).alloc (.cells #[.int .i64 1, .int .i64 1, .string ⟨#[]⟩] 23)
  have hv3 := heap_alloc_new w3 (.cells #[.int .i64 1, .int .i64 1, .string ⟨#[]⟩] 23)
  go_wp2_with fail
  refine (RE.out _ H3.vars).mono ?_
  rintro e w4 ⟨rfl, b4⟩
  have rd4 := (rd3.below b4).alloc (.cells #[.int .i64 2, .int .i64 0, .string ⟨#[105, 116, 39, 115]⟩] 23)
  have H4 := (H3.next b4).alloc (.cells #[.int .i64 2, .int .i64 0, .string ⟨#[105, 116, 39, 115]⟩] 23)
  have hv4 := row_below (row_below hv3 b4) (below_new (Below.refl _ _) (.cells #[.int .i64 2, .int .i64 0, .string ⟨#[105, 116, 39, 115]⟩] 23))
  have hw4 := heap_alloc_new w4 (.cells #[.int .i64 2, .int .i64 0, .string ⟨#[105, 116, 39, 115]⟩] 23)
  clear b1 b2 b3 b4 rd2 rd3 H2 H3 H0 H1 v hv3
  obtain ⟨b, o, u0, rfl, _, hu0, hc0⟩ := rd4.at_ (k := 0) (by decide)
  obtain ⟨b', o', u1, he, _, hu1, hc1⟩ := rd4.at_ (k := 1) (by decide)
  injection he with he
  injection he with he1 he2
  subst he1 he2
  simp only [vals, List.map_cons, List.map_nil, List.getElem?_cons_zero, List.getElem?_cons_succ, Option.some.injEq] at hu0 hu1
  subst hu0 hu1
  simp only [Nat.add_zero] at hc0
  have v0 := cell_row hv4 0; have v1 := cell_row hv4 1; have v2 := cell_row hv4 2
  have y0 := cell_row hw4 0; have y1 := cell_row hw4 1; have y2 := cell_row hw4 2
  simp only [List.getElem?_toArray, List.getElem?_cons_zero, List.getElem?_cons_succ] at v0 v1 v2 y0 y1 y2
  clear hv4 hw4 rd4
  go_wp2_with fail
  go_region_held3 (fun W => Held w W ∧ W.cell? ⟨b, o, none⟩ = some (.int .u8 1) ∧ W.cell? ⟨b, o + 1, none⟩ = some (.int .u8 2) ∧
      W.cell? ⟨w3.heap.size, 0, none⟩ = some (.int .i64 1) ∧ W.cell? ⟨w3.heap.size, 1, none⟩ = some (.int .i64 1) ∧ W.cell? ⟨w3.heap.size, 2, none⟩ = some (.string ⟨#[]⟩) ∧
      W.cell? ⟨w4.heap.size, 0, none⟩ = some (.int .i64 2) ∧ W.cell? ⟨w4.heap.size, 1, none⟩ = some (.int .i64 0) ∧ W.cell? ⟨w4.heap.size, 2, none⟩ = some (.string ⟨#[105, 116, 39, 115]⟩))
    (first
      | (go_split_ands
         refine ⟨?_, ?_, ?_, ?_, ?_, ?_, ?_, ?_, ?_⟩
         · exact Held.next (by assumption) bb
         all_goals exact (bb.cell (World.block_lt_of_cell? _ _ (by assumption))).trans (by assumption))
      | (go_split_ands
         refine ⟨?_, ?_, ?_, ?_, ?_, ?_, ?_, ?_, ?_⟩
         · exact Held.drew (by assumption)
         all_goals (show World.cell? _ _ = _; assumption))
      | go_keep)
    (first
      | (go_at_call 24; refine (NUM.out _ _).mono ?_; rintro e wx ⟨rfl, bb⟩)
      | (go_at_call 25; refine (STR.out _ _).mono ?_; rintro e wx ⟨rfl, bb⟩)
      | (go_at_call 16; (try go_split_ands); refine (SH.out _ (Held.vars (w := w) (by assumption))).mono ?_; rintro e wx ⟨rfl, bb⟩)
      | (go_at_call 12; refine (LE.out _ _ _ _ _ _ _).mono ?_; rintro e wx ⟨rfl, bb⟩)
      | (go_at_call 10; refine (RI.out _).mono ?_; rintro e wx ⟨rfl, bb⟩)
      | (go_at_call 14; refine (SA.out _).mono ?_; rintro e wx ⟨rfl, bb⟩))
  go_wp2
  all_goals go_ret
  all_goals (try go_split_ands)
  all_goals exact ⟨rfl, Held.bel (w := w) (by assumption)⟩
end Go.Proofs.YtkicjhphiibifaaDoor
