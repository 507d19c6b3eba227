/- A map with number keys that the call itself made, the heap's last block: stores at new keys, and look-ups, as equations. Of no program. -/
import Derived.Test.YtkpkkkmokgmhfaaMem
import Derived.Maps.OwnOps
import Derived.MapKept
import Derived.Laws.IdiomRangeMap
namespace Go.Proofs.Ytkpkkkmokgmhfaa
set_option maxRecDepth 100000
open Go.MapKept

theorem run_put_last {P : Program} {w : World} {t k e : TypeId} {q : IntKind} {a : Int} {v : Value} {es : Array MapEntry} {clock g : Nat}
    (ht : P.underlying t = some (.map k e)) (hk : P.underlying k = some (.int q)) (hg : w.heap.size = g) (hf : Instr.findNow (.int q) (.int q a) es.toList 0 = some none) :
    (Instr.mapUpdate t (.map (some g)) (.int q a) v).run P (w.alloc (.map es clock)) = .ok () (w.alloc (.map (es.push { key := .int q a, val := v, born := clock }) (clock + 1))) := by
  subst hg
  have hb : (w.alloc (.map es clock)).heap[w.heap.size]? = some (.map es clock) := heap_alloc_new _ _
  have hi : IsKey (.int q) (.int q a) := rfl
  simp [Instr.mapUpdate, run_underlying ht, Go.MapKept.run_getObj_map hb, run_checkKey hk hi, run_findKey hk hf, Go.MapKept.run_setObj_map _ hb, Result.andThen]
  rw [← World.alloc_eq, ← World.alloc_eq]
  simp only [World.mk.injEq, and_self, and_true]
  apply Array.ext_getElem?
  intro i
  rw [Array.getElem?_setIfInBounds, Array.getElem?_push, Array.getElem?_push]
  by_cases h : w.heap.size = i
  · subst h; simp
  · simp [h, Ne.symm h]

theorem run_look_hit {P : Program} {w : World} {t k e : TypeId} {q : IntKind} {a : Int} {v : Value} {es : Array MapEntry} {clock g i : Nat}
    (ht : P.underlying t = some (.map k e)) (hk : P.underlying k = some (.int q)) (hb : w.heap[g]? = some (.map es clock)) (hf : Instr.findNow (.int q) (.int q a) es.toList 0 = some (some (i, v))) :
    (Instr.lookup t (.map (some g)) (.int q a) true).run P w = .ok (.tuple #[v, .bool true]) w := by
  have hi : IsKey (.int q) (.int q a) := rfl
  simp [Instr.lookup, run_underlying ht, Go.MapKept.run_getObj_map hb, run_checkKey hk hi, run_findKey hk hf, Result.andThen]

theorem run_look_miss {P : Program} {w : World} {t k e : TypeId} {q : IntKind} {a : Int} {z : Value} {es : Array MapEntry} {clock g : Nat}
    (ht : P.underlying t = some (.map k e)) (hk : P.underlying k = some (.int q)) (hz : (zeroValue e).run P w = .ok z w) (hb : w.heap[g]? = some (.map es clock)) (hf : Instr.findNow (.int q) (.int q a) es.toList 0 = some none) :
    (Instr.lookup t (.map (some g)) (.int q a) true).run P w = .ok (.tuple #[z, .bool false]) w := by
  have hi : IsKey (.int q) (.int q a) := rfl
  simp [Instr.lookup, run_underlying ht, Go.MapKept.run_getObj_map hb, run_checkKey hk hi, run_findKey hk hf, hz, Result.andThen]

theorem findNow_cons {q : IntKind} {a b : Int} {v : Value} {born : Nat} {es : List MapEntry} {i : Nat} :
    Instr.findNow (.int q) (.int q a) ({ key := .int q b, val := v, born := born } :: es) i = if a = b then some (some (i, v)) else Instr.findNow (.int q) (.int q a) es (i + 1) := by
  by_cases h : a = b
  · subst h; simp [Instr.findNow, Instr.sameNow]
  · have h2 : (a == b) = false := by simpa using h
    simp [Instr.findNow, Instr.sameNow, h, h2]
theorem findNow_nil {q : IntKind} {a : Int} {i : Nat} : Instr.findNow (.int q) (.int q a) [] i = some none := rfl
end Go.Proofs.Ytkpkkkmokgmhfaa
