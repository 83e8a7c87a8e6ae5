/- Lemmas. -/
import Derived.Test.YtjhiooggnpbecaaGreatDoorK409
import Derived.Deep.Fields
import Derived.Deep.SlicePairs
import Derived.Test.YtjhiooggnpbecaaGreatDoorK452
set_option linter.unusedVariables false
set_option maxRecDepth 100000
namespace Go.Proofs.YtjhiooggnpbecaaGreatDoor
open Go.Proofs.Tryz
open Go.ChangeShapes Go.WideShapes Go.ChangeAt Go.RowKit Cf
theorem vX:prog.cellsOf 24=6:=by kernel_rfl
theorem BI:prog.cellsOf 22=1:=by kernel_rfl
theorem MI {H:Type} {enc:TypeId × Value→H} {w:World} {base b0:Nat} {r:Reach} {spare:Nat→Bool} {held:Bool} {v:Value} {d:DataW H} {p:List MemPlace}
  (hv:Value.okWide prog w r b0 24 v) (h:DataW.Trod enc prog w base spare held 24 v d p):
  ∃c:Setup,(∀k,c k≤↑ω)∧v=.agg (aL c):=by
 obtain ⟨fs,hu,hf⟩:∃fs:Array Field,prog.underlying 24=some (.struct fs)∧∀i,i < 6→∃f,fs[i]? =some f∧f.type=22∧f.offset=i:=by
  refine ⟨_,underlying24,fun i hi=>?_⟩
  match i,hi with
  | 0,_=>exact ⟨_,rfl,rfl,rfl⟩
  | 1,_=>exact ⟨_,rfl,rfl,rfl⟩
  | 2,_=>exact ⟨_,rfl,rfl,rfl⟩
  | 3,_=>exact ⟨_,rfl,rfl,rfl⟩
  | 4,_=>exact ⟨_,rfl,rfl,rfl⟩
  | 5,_=>exact ⟨_,rfl,rfl,rfl⟩
 obtain ⟨cs,rfl,hsz⟩:=okWide_struct hu hv;have h6:cs.size=6:=hsz.trans vX;obtain ⟨fuel,ht⟩:=h;obtain ⟨xs,n,_,_,_,hlen,hg⟩:=DataW.trod_struct hu ht;have each:∀i,i < 6→∃z:Nat,cs[i]? =some (.int .u64 (z:Int))∧z≤18446744073709551615:=by
  intro i hi;obtain ⟨f,hfi,hft,hfo⟩:=hf i hi;have hlt:i < xs.length:=by rw [hlen];exact (Array.getElem?_eq_some_iff.1 hfi).1
  have h1:=hg i f hfi;rw [hft,hfo,List.getElem?_eq_getElem hlt,BI] at h1;obtain ⟨z,hz,_,hw⟩:=DataW.trod_int underlying22 h1;obtain ⟨z0,z1⟩:=bounds_u64 hw;refine ⟨z.toNat,?_,by omega⟩;rw [Int.toNat_of_nonneg z0];have h2:(cs.toList.drop i)[0]? =some (.int .u64 z):=by
   have:((cs.toList.drop i).take 1)[0]? =some (.int .u64 z):=by
    have hz':(cs.toList.drop i).take 1=[.int .u64 z]:=hz;rw [hz'];rfl
   rwa [List.getElem?_take_of_lt (by omega)] at this
  rw [List.getElem?_drop] at h2;simpa using h2
 obtain ⟨q,hq⟩:=Go.Deep.choose_lt each;refine ⟨fun k=>q k.val,fun k=>(hq k.val k.isLt).2,?_⟩;congr 1
 apply Array.ext'
 apply List.ext_getElem?
 intro i;by_cases hi:i < 6
 ·have h1:=(hq i hi).1
  rw [show cs.toList[i]? =cs[i]? by simp,h1]
  match i,hi with
  | 0,_=>rfl
  | 1,_=>rfl
  | 2,_=>rfl
  | 3,_=>rfl
  | 4,_=>rfl
  | 5,_=>rfl
 ·rw [List.getElem?_eq_none (by simp;omega),List.getElem?_eq_none (by simp [aL];omega)]
end Go.Proofs.YtjhiooggnpbecaaGreatDoor

