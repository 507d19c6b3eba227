/- Layer 3: what the laws' heads want: few, of one, two or three rows. -/
import Derived.Test.YtijhcoidhlmecaaRowFew
import Derived.Test.YtijhcoidhlmecaaRowOrd
import Derived.Test.YtijhcoidhlmecaaRowAlive
import Derived.Test.YtijhcoidhlmecaaRowOpen
namespace Go.Proofs.Ytijhcoidhlmecaa
set_option maxRecDepth 100000
open Go.RowKit

theorem few_sizes {rs : List R4} (h : fewZ rs = true) : ∀ r ∈ rs, r.l.length ≤ 60 ∧ ∀ v ∈ r.l, v.s.size ≤ 400 := by
  intro r hr
  have := List.all_eq_true.1 h r hr
  simp only [Bool.and_eq_true, decide_eq_true_eq] at this
  refine ⟨this.1, fun v hv => ?_⟩
  simpa using List.all_eq_true.1 this.2 v hv

theorem few1 {A : Option Addr} {n c : Nat} {l : List V3} {w : World} (g : Nat) (hg : w.heap.size = g) (ha : RdV w A n c l) :
    Calls Try.prog 10 #[.slice (some ⟨g, 0, none⟩) 1 1] (w.alloc (.cells #[.slice A n c] 24)) fun e w' => e = .returned (.bool (fewZ [⟨A, n, c, l⟩])) ∧ Below (w.alloc (.cells #[.slice A n c] 24)).heap.size (w.alloc (.cells #[.slice A n c] 24)) w' :=
  few_any _ _ _ [⟨A, n, c, l⟩] _ (rd_at w [.slice A n c] 24 rfl (by decide) hg) (fun r hr => by
    rw [List.mem_singleton] at hr
    subst hr
    exact ha.alloc _)

theorem few2 {A B : Option Addr} {n c m d : Nat} {l k : List V3} {w : World} (g : Nat) (hg : w.heap.size = g) (ha : RdV w A n c l) (hb : RdV w B m d k) :
    Calls Try.prog 10 #[.slice (some ⟨g, 0, none⟩) 2 2] (w.alloc (.cells #[.slice A n c, .slice B m d] 24)) fun e w' => e = .returned (.bool (fewZ [⟨A, n, c, l⟩, ⟨B, m, d, k⟩])) ∧ Below (w.alloc (.cells #[.slice A n c, .slice B m d] 24)).heap.size (w.alloc (.cells #[.slice A n c, .slice B m d] 24)) w' :=
  few_any _ _ _ [⟨A, n, c, l⟩, ⟨B, m, d, k⟩] _ (rd_at w [.slice A n c, .slice B m d] 24 rfl (by decide) hg) (fun r hr => by
    rw [List.mem_cons, List.mem_singleton] at hr
    rcases hr with rfl | rfl
    · exact ha.alloc _
    · exact hb.alloc _)

theorem few3 {A B C : Option Addr} {n c m d p q : Nat} {l k j : List V3} {w : World} (g : Nat) (hg : w.heap.size = g) (ha : RdV w A n c l) (hb : RdV w B m d k) (hc : RdV w C p q j) :
    Calls Try.prog 10 #[.slice (some ⟨g, 0, none⟩) 3 3] (w.alloc (.cells #[.slice A n c, .slice B m d, .slice C p q] 24)) fun e w' => e = .returned (.bool (fewZ [⟨A, n, c, l⟩, ⟨B, m, d, k⟩, ⟨C, p, q, j⟩])) ∧ Below (w.alloc (.cells #[.slice A n c, .slice B m d, .slice C p q] 24)).heap.size (w.alloc (.cells #[.slice A n c, .slice B m d, .slice C p q] 24)) w' :=
  few_any _ _ _ [⟨A, n, c, l⟩, ⟨B, m, d, k⟩, ⟨C, p, q, j⟩] _ (rd_at w [.slice A n c, .slice B m d, .slice C p q] 24 rfl (by decide) hg) (fun r hr => by
    rw [List.mem_cons, List.mem_cons, List.mem_singleton] at hr
    rcases hr with rfl | rfl | rfl
    · exact ha.alloc _
    · exact hb.alloc _
    · exact hc.alloc _)
end Go.Proofs.Ytijhcoidhlmecaa
