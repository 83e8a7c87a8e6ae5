/- Lemmas. -/
import Derived.Test.YtjhiooggnpbecaaGreatDoorK445
import Derived.Deep.SlicePairs
import Derived.Deep.Fields
import Derived.ProofKit
import Derived.OpenShut
set_option linter.unusedVariables false
set_option maxRecDepth 100000
namespace Go.Proofs.YtjhiooggnpbecaaGreatDoor
open Tryz
open Go.ChangeShapes Go.WideShapes Go.ChangeAt Go.RowKit
variable {held:Bool} {cap fuel:Nat} {v:Option Addr} {H:Type} {w:World}
structure lW (w:World) (v:Option Addr) (n cap:Nat) (l:List Nat):Prop where
 len:l.length=n
 le:n≤cap
 big:cap≤9223372036854775807
 nus:Nus w v l
 mx:∀x∈l,x≤↑ω
theorem lW.lt {len:Nat} {l:List Nat} (h:lW w v len cap l) (hp:0 < l.length):∀a,v=some a→a.block < w.heap.size:=by
 obtain ⟨b,off,e,hb,_⟩:=h.nus hp;intro a ha;rw [e] at ha;injection ha with ha
 subst ha;exact hb
theorem lW.keep {w w':World} {v:Option Addr} {len cap:Nat} {l:List Nat} (h:lW w v len cap l) (k:Below ↑w w w'):lW w' v len cap l:=⟨h.len,h.le,h.big,h.nus.keep k,h.mx⟩
theorem GZ {enc:TypeId × Value→H} {spare:Nat→Bool} {len:Nat} {x:DataW H × List MemPlace}
  (h:DataW.trod enc prog w 0 spare held fuel 45 [.slice v len cap]=some x):∃l,lW w v len cap l:=by
 rcases Go.Deep.open_slice underlying45 h with ⟨hcs,_⟩ | ⟨a,len',cap',m,n,D,Pl,hcs,_,hl,hm,hmm,_,hi⟩
 ·simp only [List.cons.injEq,Value.slice.injEq,and_true] at hcs
  obtain ⟨rfl,rfl,rfl⟩:=hcs;exact ⟨[],rfl,by omega,by omega,Nus.nil _ _,fun r hr=>by cases hr⟩
 ·simp only [List.cons.injEq,Value.slice.injEq,and_true] at hcs
  obtain ⟨rfl,rfl,rfl⟩:=hcs;have hlm:len≤m:=by rw [hmm];split <;> omega
  have ce:prog.cellsOf 22=1:=by kernel_rfl
  unfold maxLen at hm;have each:∀i,i < len→∃q:Nat,w.cell? (a.add i)=some ↑q∧q≤18446744073709551615:=by
   intro i hlt;obtain ⟨cs',h1,h2⟩:=hi i (by omega);rw [ce,Nat.mul_one] at h1;obtain ⟨_,hlen,hcell⟩:=World.cells?_some h1
   match cs',hlen with
   | [v0],_=>
     obtain ⟨z0,hz0,_,hw0⟩:=DataW.trod_int underlying22 h2;simp only [List.cons.injEq,and_true] at hz0;subst hz0;obtain ⟨b0,b0'⟩:=bounds_u64 hw0;have e0:=hcell 0 (by omega);rw [Go.Deep.add_add] at e0;exact ⟨z0.toNat,by rw [Int.toNat_of_nonneg b0];simpa using e0,by omega⟩
  obtain ⟨q,hq⟩:=Go.Deep.choose_lt each;obtain ⟨b,off,spot⟩:=a;refine ⟨(List.range len).map q,by simp,hl,by omega,fun hpos=>?_,fun r hr=>?_⟩
  ·have hpos':0 < len:=by simpa using hpos
   have h0:=(hq 0 hpos').1;have hs:spot=none:=by simpa [Addr.add] using World.cell?_spot h0
   subst hs;refine ⟨b,off,rfl,by have:=World.block_lt_of_cell? _ _ h0;simpa [Addr.add] using this,fun i hi=>?_⟩;have hi':i < len:=by simpa using hi
   have:=(hq i hi').1;rw [Go.WideShapes.add_plain] at this;rw [this];simp [List.getD_eq_getElem?_getD,hi']
  ·obtain ⟨i,hi,rfl⟩:=List.mem_map.1 hr
   exact (hq i (by simpa using hi)).2
theorem LW {enc:TypeId × Value→H} {spare:Nat→Bool} {v:Value} {x:DataW H × List MemPlace}
  (h:DataW.trod enc prog w 0 spare held fuel 45 [v]=some x):∃p n c l,v=.slice p n c∧lW w p n c l:=by
 rcases Go.Deep.open_slice underlying45 h with ⟨hcs,_⟩ | ⟨a',len',cap',m',n',D',Pl',hcs,_⟩
 ·simp only [List.cons.injEq,and_true] at hcs
  subst hcs;obtain ⟨l,hl⟩:=GZ h;exact ⟨_,_,_,l,rfl,hl⟩
 ·simp only [List.cons.injEq,and_true] at hcs
  subst hcs;obtain ⟨l,hl⟩:=GZ h;exact ⟨_,_,_,l,rfl,hl⟩
theorem LZ {H:Type} {enc:TypeId × Value→H} {base b0:Nat} {r:Reach} {spare:Nat→Bool} {v:Value} {d:DataW H} {p:List MemPlace}
  (hv:Value.okWide prog w r b0 26 v) (h:DataW.Trod enc prog w base spare held 26 v d p):∃x0 x1 x2 x3:Nat,(x0≤↑ω∧x1≤↑ω∧x2≤↑ω∧x3≤↑ω)∧v=.agg #[↑x0,↑x1,↑x2,↑x3]:=by
 have ce:prog.cellsOf 26=4:=by kernel_rfl
 have c0:prog.cellsOf 22=1:=by kernel_rfl
 obtain ⟨cs,rfl,hsz⟩:=okWide_struct underlying26 hv;rw [ce] at hsz;obtain ⟨l⟩:=cs;obtain ⟨fuel,ht⟩:=h;obtain ⟨xs,n,_,_,_,hlen,hg⟩:=DataW.trod_struct underlying26 ht
 match l,hsz with
 | [v0,v1,v2,v3],_=>
   have g0:=hg 0 _ rfl;have g1:=hg 1 _ rfl;have g2:=hg 2 _ rfl;have g3:=hg 3 _ rfl;have hx0:xs[0]? =some (xs[0]'(by rw [hlen];decide)):=List.getElem?_eq_getElem _;have hx1:xs[1]? =some (xs[1]'(by rw [hlen];decide)):=List.getElem?_eq_getElem _;have hx2:xs[2]? =some (xs[2]'(by rw [hlen];decide)):=List.getElem?_eq_getElem _;have hx3:xs[3]? =some (xs[3]'(by rw [hlen];decide)):=List.getElem?_eq_getElem _;rw [hx0] at g0;rw [hx1] at g1;rw [hx2] at g2;rw [hx3] at g3;simp [c0,Value.cells] at g0 g1 g2 g3
   obtain ⟨z0,hz0,_,hw0⟩:=DataW.trod_int underlying22 g0;obtain ⟨z1,hz1,_,hw1⟩:=DataW.trod_int underlying22 g1;obtain ⟨z2,hz2,_,hw2⟩:=DataW.trod_int underlying22 g2;obtain ⟨z3,hz3,_,hw3⟩:=DataW.trod_int underlying22 g3;simp only [List.cons.injEq,and_true] at hz0 hz1 hz2 hz3;subst hz0 hz1 hz2 hz3;obtain ⟨a0,b0⟩:=bounds_u64 hw0;obtain ⟨a1,b1⟩:=bounds_u64 hw1;obtain ⟨a2,b2⟩:=bounds_u64 hw2;obtain ⟨a3,b3⟩:=bounds_u64 hw3;obtain ⟨z0,rfl⟩:=Int.eq_ofNat_of_zero_le a0;obtain ⟨z1,rfl⟩:=Int.eq_ofNat_of_zero_le a1;obtain ⟨z2,rfl⟩:=Int.eq_ofNat_of_zero_le a2;obtain ⟨z3,rfl⟩:=Int.eq_ofNat_of_zero_le a3;exact ⟨z0,z1,z2,z3,⟨by omega,by omega,by omega,by omega⟩,rfl⟩
end Go.Proofs.YtjhiooggnpbecaaGreatDoor
