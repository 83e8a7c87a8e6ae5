/- 1 texts put together: what each one says stands ahead of it. -/
import Derived.Shelf.SlGeneric
import Derived.Shelf.SlSorted.Search
import Derived.Ground.SlsoProg
import Derived.Test.YteoepabmnbkabaaGreatDoorProg
namespace Go.Proofs
open Go.Shelf
def Tryz.searchR_ren:Go.Shelf.Ren:=⟨fun | 16=>272 | n=>n,fun | 3=>3 | 35=>324 | 4=>4 | 38=>267 | n=>n,fun | n=>n⟩
theorem Tryz.searchR:Go.Proofs.SlLaysO.n16 Tryz.prog Tryz.searchR_ren:={
 mixed:=by kernel_rfl
 f16:=Tryz.func272.trans (congrArg some (by kernel_rfl))
 t3:=Tryz.underlying3
 a3:=Tryz.isAgg3
 z3:=Tryz.sizeOf3
 v3:=Tryz.zeroValue3
 t4:=Tryz.underlying4
 a4:=Tryz.isAgg4
 z4:=Tryz.sizeOf4
 v4:=Tryz.zeroValue4
 t35:=Tryz.underlying324
 a35:=Tryz.isAgg324
 z35:=Tryz.sizeOf324
 v35:=Tryz.zeroValue324
 t38:=Tryz.underlying267
 a38:=Tryz.isAgg267
 z38:=Tryz.sizeOf267
 v38:=Tryz.zeroValue267}
end Go.Proofs
