/- What of this program the sort of structs leans on: told of any program, so that the walks need not know how many cells an element has. -/
import Derived.Test.YtieaobeidlhefaaKMem
namespace Go.Proofs.Ytieaobeidlhefaa
set_option maxRecDepth 100000
open Go.RowKit Go.Sort

structure LayK (P : Program) (k : Nat) : Prop where
  mixed : P.follows .mixedOrders = true
  ins : P.funcs[92]? = some Try.f92
  swp : P.funcs[111]? = some Try.f111
  rot : P.funcs[105]? = some Try.f105
  sym : P.funcs[93]? = some Try.f93
  stb : P.funcs[86]? = some Try.f86
  top : P.funcs[62]? = some Try.f62
  tU : P.underlying 0 = some (TypeDesc.tuple #[])
  aU : ∀ w, (isAgg 0).run P w = .ok false w
  zU : ∀ w, (Go.sizeOf 0).run P w = .ok 1 w
  vU : ∀ w, (zeroValue 0).run P w = .ok (Value.tuple #[]) w
  tI : P.underlying 3 = some (TypeDesc.int IntKind.i64)
  aI : ∀ w, (isAgg 3).run P w = .ok false w
  zI : ∀ w, (Go.sizeOf 3).run P w = .ok 1 w
  vI : ∀ w, (zeroValue 3).run P w = .ok (Value.int IntKind.i64 0) w
  tB : P.underlying 4 = some (TypeDesc.bool)
  aB : ∀ w, (isAgg 4).run P w = .ok false w
  zB : ∀ w, (Go.sizeOf 4).run P w = .ok 1 w
  vB : ∀ w, (zeroValue 4).run P w = .ok (Value.bool false) w
  tS : P.underlying 24 = some (TypeDesc.slice 32)
  aS : ∀ w, (isAgg 24).run P w = .ok false w
  zS : ∀ w, (Go.sizeOf 24).run P w = .ok 1 w
  vS : ∀ w, (zeroValue 24).run P w = .ok (Value.slice none 0 0) w
  tC : P.underlying 82 = some (TypeDesc.func #[32, 32] #[3] false)
  aC : ∀ w, (isAgg 82).run P w = .ok false w
  zC : ∀ w, (Go.sizeOf 82).run P w = .ok 1 w
  vC : ∀ w, (zeroValue 82).run P w = .ok (Value.nilFunc) w
  tW : P.underlying 104 = some (TypeDesc.int IntKind.u64)
  aW : ∀ w, (isAgg 104).run P w = .ok false w
  zW : ∀ w, (Go.sizeOf 104).run P w = .ok 1 w
  vW : ∀ w, (zeroValue 104).run P w = .ok (Value.int IntKind.u64 0) w
  aE : ∀ w, (isAgg 32).run P w = .ok true w
  zE : ∀ w, (Go.sizeOf 32).run P w = .ok k w

theorem layK : LayK Try.prog 11 where
  mixed := by kernel_rfl
  ins := Try.func92
  swp := Try.func111
  rot := Try.func105
  sym := Try.func93
  stb := Try.func86
  top := Try.func62
  tU := Try.underlying0
  aU := Try.isAgg0
  zU := Try.sizeOf0
  vU := Try.zeroValue0
  tI := Try.underlying3
  aI := Try.isAgg3
  zI := Try.sizeOf3
  vI := Try.zeroValue3
  tB := Try.underlying4
  aB := Try.isAgg4
  zB := Try.sizeOf4
  vB := Try.zeroValue4
  tS := Try.underlying24
  aS := Try.isAgg24
  zS := Try.sizeOf24
  vS := Try.zeroValue24
  tC := Try.underlying82
  aC := Try.isAgg82
  zC := Try.sizeOf82
  vC := Try.zeroValue82
  tW := Try.underlying104
  aW := Try.isAgg104
  zW := Try.sizeOf104
  vW := Try.zeroValue104
  aE := Try.isAgg32
  zE := Try.sizeOf32
end Go.Proofs.Ytieaobeidlhefaa
