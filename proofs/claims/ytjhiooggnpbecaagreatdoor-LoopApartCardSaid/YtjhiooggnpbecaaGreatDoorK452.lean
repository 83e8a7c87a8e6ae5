/- Lemmas. -/
import Derived.Test.YtjhiooggnpbecaaGreatDoorRows
import Derived.Test.YtjhiooggnpbecaaGreatDoorK402
import Derived.Deep.DeepWitnessRowRef
import Derived.ProofKit
import Derived.OpenShut
set_option linter.unusedVariables false
set_option maxRecDepth 100000
namespace Go.Proofs.YtjhiooggnpbecaaGreatDoor
open Go.Proofs.Tryz
open Go.ChangeShapes Go.WideShapes Go.ChangeAt Go.RowKit
theorem tS {H:Type} {enc:TypeId × Value→H} {w:World} {base:Nat} {sp:Nat→Bool} {held:Bool} {fuel:Nat} {cs:List Value} {a b:Int} {p:List MemPlace}
  (h:DataW.trod enc prog w base sp held fuel 162 cs=some (.agg [.lit (.int .u64 a),.lit (.int .u64 b)],p)):cs=[.int .u64 a,.int .u64 b]:=by
 have ce:prog.cellsOf 162=2:=by kernel_rfl
 have c0:prog.cellsOf 22=1:=by kernel_rfl
 obtain ⟨xs,k,_,hx,hl,hxl,hf⟩:=DataW.trod_struct underlying162 h;rw [ce] at hl
 match cs,hl with
 | [v0,v1],_=>
   match xs,hxl with
   | [x0,x1],_=>
     have g0:=hf 0 _ rfl;have g1:=hf 1 _ rfl;simp [c0] at g0 g1
     obtain ⟨z0,hz0,e0,_⟩:=DataW.trod_int underlying22 g0;obtain ⟨z1,hz1,e1,_⟩:=DataW.trod_int underlying22 g1;subst e0 e1;simp only [List.cons.injEq,and_true] at hz0 hz1;subst hz0 hz1;simp at hx
     obtain ⟨⟨rfl,rfl⟩,_⟩:=hx;rfl
theorem RA {W : World} (h : laidMet prog [("goit/gain.table", Rows.laid_goit_gain_table)] W) : Gl W := by
 obtain ⟨ps,⟨g',t',cs,fuel,p,q,hg',ht',hvar,hd,_,_⟩,_⟩:=h;have hg : prog.globalNamed "goit/gain.table" = some 0 := by kernel_rfl
 have hty:(prog.globals[(0:Nat)]?).map (·.type)=some 230:=by kernel_rfl
 obtain rfl:=Option.some.inj (hg.symm.trans hg');obtain rfl:=Option.some.inj (hty.symm.trans ht');have ce:prog.cellsOf 162=2:=by kernel_rfl
 obtain ⟨xs,m,_,hx,hl,hxl,hf⟩:=DataW.trod_array underlying230 hd;have hm:xs.map (·.1)=[.agg [.lit (.int .u64 277),.lit (.int .u64 200)],.agg [.lit (.int .u64 36),.lit (.int .u64 200)],.agg [.lit (.int .u64 75),.lit (.int .u64 200)],.agg [.lit (.int .u64 100),.lit (.int .u64 200)],.agg [.lit (.int .u64 100),.lit (.int .u64 200)],.agg [.lit (.int .u64 125),.lit (.int .u64 225)],.agg [.lit (.int .u64 100),.lit (.int .u64 50)]]:=by
  have:=congrArg Prod.fst hx;unfold Rows.laid_goit_gain_table at this;exact ((DataW.agg.injEq _ _).mp this).symm
 have key:∀k,k < 7→(xs.map (·.1))[k]? =some (.agg [.lit (.int .u64 (gY k:Int)),.lit (.int .u64 (dQ k:Int))]):=by
  rw [hm];exact PK rfl rfl rfl rfl rfl rfl rfl
 intro k hk;obtain ⟨y,hy,hy1⟩:∃y,xs[k]? =some y∧y.1=.agg [.lit (.int .u64 (gY k:Int)),.lit (.int .u64 (dQ k:Int))]:=by
  have:=key k hk;rw [List.getElem?_map,Option.map_eq_some_iff] at this;exact this
 have hk':=hf k hk;rw [hy,ce] at hk';obtain ⟨y1,y2⟩:=y;obtain rfl:y1=_:=hy1;have hc:=tS hk';have a0:cs[k * 2]? =some (.int .u64 (gY k:Int)):=by
  have:=congrArg (·[0]?) hc;simpa [List.getElem?_take,List.getElem?_drop] using this
 have a1:cs[k * 2 + 1]? =some (.int .u64 (dQ k:Int)):=by
  have:=congrArg (·[1]?) hc;simpa [List.getElem?_take,List.getElem?_drop] using this
 exact ⟨(World.var?_cell hg hvar (k * 2)).trans (by simpa using a0),(World.var?_cell hg hvar (k * 2 + 1)).trans (by simpa using a1)⟩
def PJ:Array Value:=#[.int .u64 277,.int .u64 200,.int .u64 36,.int .u64 200,.int .u64 75,.int .u64 200,.int .u64 100,.int .u64 200,.int .u64 100,.int .u64 200,.int .u64 125,.int .u64 225,.int .u64 100,.int .u64 50]
noncomputable def jI (os:Os):World:=
 {World.holding prog os ⟨#[],#[],[]⟩ with heap:=(World.holding prog os ⟨#[],#[],[]⟩).heap.modify 0 fun
   | .cells _ t frozen=>.cells PJ t frozen
   | o=>o}
theorem IA (os : Os) (args : Array Value) : laidMet prog [("goit/gain.table", Rows.laid_goit_gain_table)] ((jI os).forCall (fun _ _ => 0) ⟨#[], args, []⟩).memory :=
 laidMet_of_run' 8 (by kernel_rfl) (by kernel_rfl)
end Go.Proofs.YtjhiooggnpbecaaGreatDoor
