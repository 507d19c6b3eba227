/- The library's functions that layer 2 calls, by the shelf's contracts, each in one form: what is handed back, and that what was there stands. -/
import Derived.Test.YtkicjhphiibifaaDoorMem
import Derived.Test.YtkicjhphiibifaaDoorShelf
import Derived.Lib.AtoiErrMem
import Derived.Sort.Grow
namespace Go.Proofs.YtkicjhphiibifaaDoor
set_option maxRecDepth 100000
open Go.RowKit

/-- what the library's own variables hold -/
structure Vars (w : World) : Prop where
  room : 8 ≤ w.heap.size
  pow : Lib.TabIs Tryd.prog w "internal/strconv.uint64pow10" .u64 Lib.pow10Tab
  syn : ∃ tp p, w.var? Tryd.prog "strconv.ErrSyntax" = some #[.iface tp p]
  rng : ∃ tp p, w.var? Tryd.prog "strconv.ErrRange" = some #[.iface tp p]
  len : ∃ m, w.cell? ⟨3, 0, none⟩ = some (.int .i64 m)

theorem gPow : Tryd.prog.globalNamed "internal/strconv.uint64pow10" = some 2 := by kernel_rfl
theorem gSyn : Tryd.prog.globalNamed "strconv.ErrSyntax" = some 0 := by kernel_rfl
theorem gRng : Tryd.prog.globalNamed "strconv.ErrRange" = some 1 := by kernel_rfl

theorem var_block {w w' : World} {name : String} {g : Nat} (hg : Tryd.prog.globalNamed name = some g) (h : w'.heap[g]? = w.heap[g]?) : w'.var? Tryd.prog name = w.var? Tryd.prog name := by
  unfold World.var?
  rw [hg]
  simp only [Option.bind_some, h]

theorem Vars.below {w w' : World} (v : Vars w) (h : Below w.heap.size w w') : Vars w' := by
  have hr := v.room
  have hs := h.size
  refine ⟨Nat.le_trans hr hs, ?_, ?_, ?_, ?_⟩
  · have := v.pow
    unfold Lib.TabIs at this ⊢
    rw [var_block gPow (h.block _ (by omega)), this]
  · obtain ⟨tp, p, e⟩ := v.syn
    exact ⟨tp, p, by rw [var_block gSyn (h.block _ (by omega)), e]⟩
  · obtain ⟨tp, p, e⟩ := v.rng
    exact ⟨tp, p, by rw [var_block gRng (h.block _ (by omega)), e]⟩
  · obtain ⟨m, e⟩ := v.len
    exact ⟨m, by rw [h.cell (show 3 < w.heap.size by omega), e]⟩

theorem itoa_any (n : Int) (w : World) (h0 : -9223372036854775808 ≤ n) (h1 : n ≤ 9223372036854775807) (v : Vars w) :
    Calls Tryd.prog 39 #[.int .i64 n] w fun e w' => e = .returned (.string ⟨(Lib.itoa n).toArray⟩) ∧ Below w.heap.size w w' := by
  refine (Tryd.strconv_Itoa n h0 h1 w v.pow).mono ?_
  rintro e w' ⟨rfl, k, os, rfl⟩
  refine ⟨rfl, ⟨rfl, rfl, rfl, ?_, ?_⟩⟩
  · simp [Sort.grow]
  · intro j hj
    have : (Sort.grow (w.drewN k) os).heap = w.heap ++ os := rfl
    rw [this, Array.getElem?_append_left hj]

theorem atoi_any (s : ByteArray) (w : World) (hs : s.size ≤ 4294967296) (v : Vars w) :
    Calls Tryd.prog 44 #[.string s] w fun e w' => ∃ r, e = .returned (.tuple #[.int .i64 (match Lib.atoiAll s.data.toList with
      | .ok v => v
      | .range => Lib.atoiSat s.data.toList
      | _ => 0), r]) ∧ Below w.heap.size w w' := by
  cases h : Lib.atoiAll s.data.toList with
  | ok z =>
    refine (Tryd.strconv_Atoi_ok s (by omega) z h w).mono ?_
    rintro e w' ⟨rfl, hw⟩
    refine ⟨_, rfl, ?_⟩
    rcases hw with rfl | ⟨t, rfl⟩
    · exact Below.refl _ _
    · exact Lib.bytesWorld_below _ _ _
  | range =>
    obtain ⟨tp, p, e⟩ := v.rng
    refine (Tryd.strconv_Atoi_range_var s (by omega) h tp p w e).mono ?_
    rintro e w' ⟨N, rfl, _, _, hb⟩
    exact ⟨_, rfl, hb⟩
  | _ =>
    obtain ⟨tp, p, e⟩ := v.syn
    refine (Any.strconv_Atoi_syntax_var Tryd.laysC172 s (by omega) h tp p w e).mono ?_
    rintro e w' ⟨N, rfl, _, _, hb⟩
    exact ⟨_, rfl, hb⟩

theorem replace_any (s old new : ByteArray) (w : World) (hs : s.size ≤ 4294967280) (h1 : 1 ≤ old.size) (hn : new.size ≤ 2) (v : Vars w) :
    Calls Tryd.prog 41 #[.string s, .string old, .string new] w fun e w' =>
      e = .returned (.string ⟨(Lib.replaceAll s.data.toList old.data.toList new.data.toList).toArray⟩) ∧ Below w.heap.size w w' := by
  obtain ⟨m, hm⟩ := v.len
  refine Tryd.strings_ReplaceAll s old new m w (by omega) hm h1 ?_
  have hc : Lib.countB s old ≤ s.size + 1 := by
    have := Lib.count_le s.data.toList old.data.toList
    exact this
  have h2 : Lib.countB s old * new.size ≤ (s.size + 1) * 2 := Nat.mul_le_mul hc hn
  omega

theorem cutPrefix_any (s p : ByteArray) (w : World) :
    Calls Tryd.prog 42 #[.string s, .string p] w fun e w' => e = .returned (.tuple #[.string ⟨(Lib.trimPrefix s.data.toList p.data.toList).toArray⟩, .bool (Lib.hasPrefix s.data.toList p.data.toList)]) ∧ Below w.heap.size w w' :=
  (Tryd.strings_CutPrefix s p w).mono fun _ _ ⟨a, b⟩ => ⟨a, b ▸ Below.refl _ _⟩

theorem trimSuffix_any (s p : ByteArray) (w : World) (hs : s.size ≤ 4294967296) :
    Calls Tryd.prog 43 #[.string s, .string p] w fun e w' => e = .returned (.string ⟨(Lib.trimSuffix s.data.toList p.data.toList).toArray⟩) ∧ Below w.heap.size w w' :=
  (Tryd.strings_TrimSuffix s p w (by omega)).mono fun _ _ ⟨a, b⟩ => ⟨a, b ▸ Below.refl _ _⟩
end Go.Proofs.YtkicjhphiibifaaDoor
