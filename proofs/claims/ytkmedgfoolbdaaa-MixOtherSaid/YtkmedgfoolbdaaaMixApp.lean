/- Layer 6: bytes put together by append, from an empty row of the call's own on. -/
import Derived.Test.YtkmedgfoolbdaaaMixAwake
import Derived.Test.YtkmedgfoolbdaaaMem2
namespace Go.Proofs.Ytkmedgfoolbdaaa
set_option maxRecDepth 100000
open Go.ChangeShapes Go.WideShapes Go.ChangeAt Go.RowKit

theorem wpList_app0 {P : Program} {w W0 : World} {ops : Array Oper} {rest : List Oper} {o : Oper} {a : Act} {Q : Exit → Act → World → Prop} (hgd : o.guard = none) (s x : Operand) (t : TypeId)
    (ho : o.op = .call { callee := .builtin .append, args := #[s, x], argTypes := #[t, t] }) (e : TypeId) (ht : P.underlying t = some (.slice e))
    (z : Value) (bytes : Nat) (hinfo : (P.info? e).map (fun i => (i.zero, i.size, i.bytes)) = some (some z, 1, bytes)) (hzs : z.cells.size = 1) (hb64 : bytes ≤ 4096)
    (base : Nat) (A : Option Addr) (m c : Nat) (news : List Value) (hx : a.eval x = .slice A m c)
    (hs : a.eval s = .slice (some ⟨w.heap.size, 0, none⟩) 0 0) (hrd : Rd w A m c news) (h1 : ∀ u ∈ news, u.oneCell' = true) (hn : m ≤ 17179869184)
    (hbel : Below base W0 w) (hbase : base ≤ w.heap.size)
    (h : ∀ A' c' w', w'.ownsRow base e 1 (.slice A' m c') m news → Rd w' A' m c' news → Below base W0 w' → base ≤ w'.heap.size → wpList P ops Q rest (a.put o.dst (.slice A' m c')) w') :
    wpList P ops Q (o :: rest) a (w.alloc (.cells #[] e)) := by
  have hown : (w.alloc (.cells #[] e)).ownsRow base e 1 (.slice (some ⟨w.heap.size, 0, none⟩) 0 0) 0 [] := World.ownsRow_made w #[] 0 hbase (by simp [maxLen]) rfl
  refine wpList_appS hgd s x t ho e ht z bytes hinfo hzs hb64 base _ 0 [] A m c news hx hs hown (hrd.alloc _) h1 (by omega) (hbel.alloc hbase _) (by simp; omega) ?_
  intro A' c' w' a1 a2 a3 a4
  rw [Nat.zero_add, List.nil_append] at a1 a2
  rw [Nat.zero_add]
  exact h A' c' w' a1 a2 a3 a4
theorem vals_app {k : IntKind} {a b : List Int} : vals k a ++ vals k b = vals k (a ++ b) := by simp [vals]
theorem vals_app1 {k : IntKind} {a b : List Int} {x : Int} : vals k a ++ [.int k x] ++ vals k b = vals k (a ++ [x] ++ b) := by simp [vals]
theorem bytes_app {a b : List Int} (h1 : Bytes a) (h2 : Bytes b) : Bytes (a ++ b) := fun x hx => by
  rcases List.mem_append.1 hx with h | h
  · exact h1 x h
  · exact h2 x h
theorem bytes_app1 {a b : List Int} {x : Int} (h1 : Bytes a) (hx0 : 0 ≤ x) (hx1 : x ≤ 255) (h2 : Bytes b) : Bytes (a ++ [x] ++ b) :=
  bytes_app (bytes_app h1 (fun y hy => by simp at hy; omega)) h2
end Go.Proofs.Ytkmedgfoolbdaaa
