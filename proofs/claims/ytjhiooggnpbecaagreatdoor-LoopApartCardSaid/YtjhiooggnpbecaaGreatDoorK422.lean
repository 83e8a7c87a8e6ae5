/- Lemmas. -/
import Derived.Shelf.SlSorted.Search
import Derived.Test.YtjhiooggnpbecaaGreatDoorProg
set_option linter.unusedVariables false
namespace Go.Proofs
open Go.Shelf
def Tryz.searchR_ren:Go.Shelf.Ren:=⟨fun | 16=>211 | n=>n,fun | 3=>3 | 35=>324 | 4=>4 | 38=>260 | n=>n,fun | n=>n⟩
theorem Tryz.searchR:Go.Proofs.SlLaysO.n16 prog Tryz.searchR_ren:={
 mixed:=by kernel_rfl
 f16:=func211.trans (congrArg some (by kernel_rfl))
 t3:=underlying3
 a3:=Tryz.isAgg3
 z3:=Tryz.sizeOf3
 v3:=Tryz.zeroValue3
 t4:=underlying4
 a4:=Tryz.isAgg4
 z4:=Tryz.sizeOf4
 v4:=Tryz.zeroValue4
 t35:=underlying324
 a35:=Tryz.isAgg324
 z35:=Tryz.sizeOf324
 v35:=Tryz.zeroValue324
 t38:=underlying260
 a38:=Tryz.isAgg260
 z38:=Tryz.sizeOf260
 v38:=Tryz.zeroValue260}
end Go.Proofs
