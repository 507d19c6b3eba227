/- Layer 11: the laws' own schema of two tables. -/
import Derived.Test.YtogfnjlhfbpneaaSchRefT
namespace Go.Proofs.Ytogfnjlhfbpneaa
set_option maxRecDepth 100000
open Go.RowKit

def idC : C4 := ⟨⟨#[105, 100]⟩, 0, 1, false⟩
def nC : C4 := ⟨⟨#[110]⟩, 0, 1, true⟩
def cC : C4 := ⟨⟨#[99]⟩, 4, 2, false⟩
def gC : C4 := ⟨⟨#[103]⟩, 0, 1, false⟩
def tA (a1 a2 : Option Addr) : T6 := ⟨⟨#[97]⟩, a1, 3, 3, [idC, nC, gC], none, 0, 0, [], none, 0, 0, none, 0, 0, [], a2, 1, 1, [⟨1, 2, 9⟩]⟩
def tB (b1 b2 b3 : Option Addr) : T6 := ⟨⟨#[98]⟩, b1, 3, 3, [idC, nC, cC], b2, 1, 1, [1], none, 0, 0, b3, 1, 1, [⟨1, 0, 2⟩], none, 0, 0, []⟩

theorem reads_some (g : Nat) (w : World) (hg : w.heap.size = g) : ∃ W : World,
    Hid (W = (((((((((w.alloc (.cells #[.slice (some ⟨g + 1 + 1 + 1 + 1 + 1 + 1 + 1 + 1 + 1, 0, none⟩) 2 2] 26)).alloc (.cells #[.string ⟨#[105, 100]⟩, .int .i64 0, .int .i64 1, .bool false] 49)).alloc (.cells #[.string ⟨#[110]⟩, .int .i64 0, .int .i64 1, .bool true] 49)).alloc (.cells #[.string ⟨#[105, 100]⟩, .int .i64 0, .int .i64 1, .bool false, .string ⟨#[110]⟩, .int .i64 0, .int .i64 1, .bool true, .string ⟨#[99]⟩, .int .i64 4, .int .i64 2, .bool false] 49)).alloc (.cells #[.int .i64 1] 3)).alloc (.cells #[.int .i64 1, .int .i64 0, .int .i64 2] 42)).alloc (.cells #[.string ⟨#[98]⟩, .slice (some ⟨g + 1 + 1 + 1, 0, none⟩) 3 3, .slice (some ⟨g + 1 + 1 + 1 + 1, 0, none⟩) 1 1, .slice none 0 0, .slice (some ⟨g + 1 + 1 + 1 + 1 + 1, 0, none⟩) 1 1, .slice none 0 0] 39)).alloc (.cells #[.string ⟨#[105, 100]⟩, .int .i64 0, .int .i64 1, .bool false, .string ⟨#[110]⟩, .int .i64 0, .int .i64 1, .bool true, .string ⟨#[103]⟩, .int .i64 0, .int .i64 1, .bool false] 49)).alloc (.cells #[.int .i64 1, .int .i64 2, .int .i64 9] 66)))
    ∧ Hid (W.heap[g]? = some (.cells #[.slice (some ⟨g + 1 + 1 + 1 + 1 + 1 + 1 + 1 + 1 + 1, 0, none⟩) 2 2] 26)) ∧ Hid (Below g w W) ∧ Hid (W.heap.size = g + 1 + 1 + 1 + 1 + 1 + 1 + 1 + 1 + 1)
    ∧ Hid (RdC W (some ⟨g + 1 + 1 + 1, 0, none⟩) 3 3 [idC, nC, cC]) ∧ Hid (Rd W (some ⟨g + 1 + 1 + 1 + 1, 0, none⟩) 1 1 (vals .i64 [1])) ∧ Hid (RdF W (some ⟨g + 1 + 1 + 1 + 1 + 1, 0, none⟩) 1 1 [⟨1, 0, 2⟩])
    ∧ Hid (RdC W (some ⟨g + 1 + 1 + 1 + 1 + 1 + 1 + 1, 0, none⟩) 3 3 [idC, nC, gC]) ∧ Hid (RdF W (some ⟨g + 1 + 1 + 1 + 1 + 1 + 1 + 1 + 1, 0, none⟩) 1 1 [⟨1, 2, 9⟩]) := by
  subst hg
  have hw : ∀ (w0 w : World) (o : Obj), Below w0.heap.size w0 w → Below w0.heap.size w0 (w.alloc o) := fun w0 w o h => below_new h o
  have r := Below.refl
  refine ⟨_, rfl, ?_, ?_, ?_, ?_, ?_, ?_, ?_, ?_⟩
  · exact row_below (heap_alloc_new w _) (hw _ _ _ (hw _ _ _ (hw _ _ _ (hw _ _ _ (hw _ _ _ (hw _ _ _ (hw _ _ _ (hw _ _ _ (r _ _)))))))))
  · exact hw _ _ _ (hw _ _ _ (hw _ _ _ (hw _ _ _ (hw _ _ _ (hw _ _ _ (hw _ _ _ (hw _ _ _ (hw _ _ _ (r _ _)))))))))
  · show _ = _; simp
  · exact (rdg_new c4len _ [idC, nC, cC] _ _ rfl rfl (by decide) (by simp)).below (hw _ _ _ (hw _ _ _ (hw _ _ _ (hw _ _ _ (hw _ _ _ (r _ _))))))
  · exact (rd_at _ (vals .i64 [1]) _ rfl (by decide) (by simp)).below (hw _ _ _ (hw _ _ _ (hw _ _ _ (hw _ _ _ (r _ _)))))
  · exact (rdg_new f3len _ [⟨1, 0, 2⟩] _ _ rfl rfl (by decide) (by simp)).below (hw _ _ _ (hw _ _ _ (hw _ _ _ (r _ _))))
  · exact (rdg_new c4len _ [idC, nC, gC] _ _ rfl rfl (by decide) (by simp)).below (hw _ _ _ (r _ _))
  · exact rdg_new f3len _ [⟨1, 2, 9⟩] _ _ rfl rfl (by decide) (by simp)

set_option maxHeartbeats 6400000 in
theorem some_any (w : World) :
    Calls Try.prog 24 #[] w fun e w' => ∃ A a1 a2 b1 b2 b3, e = .returned (.agg #[.slice A 2 2]) ∧ RdS w' A 2 2 [tA a1 a2, tB b1 b2 b3] ∧ Below w.heap.size w w' := by
  obtain ⟨g, hg⟩ : ∃ g, Hid (w.heap.size = g) := ⟨_, rfl⟩
  obtain ⟨W, hW, R0, BW, SW, M1, M2, M3, M4, M5⟩ := reads_some g w hg.out
  go_enter Try.func24, Try.ntmps24
  go_wp2_with fail
  rw [hg.out, ← hW.out]
  clear hW
  obtain ⟨Z, hZ⟩ : ∃ Z, Hid (Z = (#[.string ⟨#[97]⟩, .slice (some ⟨g + 1 + 1 + 1 + 1 + 1 + 1 + 1, 0, none⟩) 3 3, .slice none 0 0, .slice none 0 0, .slice none 0 0, .slice (some ⟨g + 1 + 1 + 1 + 1 + 1 + 1 + 1 + 1, 0, none⟩) 1 1,
    .string ⟨#[98]⟩, .slice (some ⟨g + 1 + 1 + 1, 0, none⟩) 3 3, .slice (some ⟨g + 1 + 1 + 1 + 1, 0, none⟩) 1 1, .slice none 0 0, .slice (some ⟨g + 1 + 1 + 1 + 1 + 1, 0, none⟩) 1 1, .slice none 0 0] : Array Value)) := ⟨_, rfl⟩
  rw [← hZ.out]
  have BZ : Below W.heap.size W (W.alloc (.cells Z 39)) := below_new (Below.refl _ _) _
  have RZ := row_below R0.out BZ
  refine bodyPost_ret (v := .agg #[.slice (some ⟨g + 1 + 1 + 1 + 1 + 1 + 1 + 1 + 1 + 1, 0, none⟩) 2 2]) (results_cell_row rfl _ _ g 26 _ (0, 0) _ rfl RZ Try.underlying26 rfl (by kernel_rfl)) rfl ?_
  refine ⟨_, some ⟨g + 1 + 1 + 1 + 1 + 1 + 1 + 1, 0, none⟩, some ⟨g + 1 + 1 + 1 + 1 + 1 + 1 + 1 + 1, 0, none⟩, some ⟨g + 1 + 1 + 1, 0, none⟩, some ⟨g + 1 + 1 + 1 + 1, 0, none⟩, some ⟨g + 1 + 1 + 1 + 1 + 1, 0, none⟩, rfl, ?_, ?_⟩
  · refine ⟨rdg_new t6len W [tA _ _, tB _ _ _] Z _ (by rw [hZ.out]; rfl) rfl (by decide) SW.out, ?_⟩
    intro t ht
    rcases List.mem_cons.1 ht with rfl | ht
    · exact ⟨M4.out.below BZ, Rd.nil_ _, ⟨Nat.le_refl 0, Nat.zero_le _⟩, RdG.nil_ _, M5.out.below BZ⟩
    · obtain rfl := List.mem_singleton.1 ht
      exact ⟨M1.out.below BZ, M2.out.below BZ, ⟨Nat.le_refl 0, Nat.zero_le _⟩, M3.out.below BZ, RdG.nil_ _⟩
  · exact BW.out.trans (BZ.mono (by rw [SW.out]; omega))
end Go.Proofs.Ytogfnjlhfbpneaa
