/- Lemmas. -/
import Derived.Test.YtjhiooggnpbecaaGreatDoorK304
import Derived.Deep.SlicePairs
import Derived.ProofKit
import Derived.OpenShut
set_option linter.unusedVariables false
set_option maxRecDepth 100000
namespace Go.Proofs.YtjhiooggnpbecaaGreatDoor
open Tryz
variable {held:Bool} {cap fuel len:Nat} {v:Option Addr} {H:Type} {w:World}
open Go.ChangeShapes Go.WideShapes Go.ChangeAt Go.RowKit
def GN (w:World) (v:Option Addr) (len:Nat) (l:List Rn):Prop:=l.length=len∧len≤9223372036854775807∧Its w v l∧∀r∈l,r.u64
theorem xP {enc:TypeId × Value→H} {spare:Nat→Bool} {x:DataW H × List MemPlace}
  (h:DataW.trod enc prog w 0 spare held fuel 62 [.slice v len cap]=some x):∃l,GN w v len l:=by
 rcases Go.Deep.open_slice_pairs underlying62 underlying190 (by kernel_rfl) rfl rfl (by kernel_rfl) (by kernel_rfl) h with ⟨hcs,_⟩ | ⟨a,len',cap',m,n,V0,V1,D0,D1,P0,P1,hcs,_,hl,hm,hmm,_,hi⟩
 ·simp only [List.cons.injEq,Value.slice.injEq,and_true] at hcs
  obtain ⟨rfl,rfl,rfl⟩:=hcs;exact ⟨[],rfl,by omega,Its.none _ _,fun r hr=>by cases hr⟩
 ·simp only [List.cons.injEq,Value.slice.injEq,and_true] at hcs
  obtain ⟨rfl,rfl,rfl⟩:=hcs;have hlm:len≤m:=by rw [hmm];split <;> omega
  unfold maxLen at hm;have each:∀i,i < len→∃q:Rn,w.cell? (a.add (i * 2))=some ↑q.a∧w.cell? (a.add (i * 2 + 1))=some ↑q.b∧q.u64:=by
   intro i hlt;obtain ⟨c0,c1,t0,t1⟩:=hi i (by omega);obtain ⟨y,hy,_,hwy⟩:=DataW.trod_int underlying22 t0;obtain ⟨z,hz,_,hw⟩:=DataW.trod_int underlying22 t1;simp only [List.cons.injEq,and_true] at hy hz;obtain ⟨y0,y1⟩:=bounds_u64 hwy;obtain ⟨z0,z1⟩:=bounds_u64 hw;refine ⟨⟨y.toNat,z.toNat⟩,?_,?_,⟨by show y.toNat≤_;omega,by show z.toNat≤_;omega⟩⟩
   ·rw [c0,hy];dsimp;rw [Int.toNat_of_nonneg y0]
   ·rw [c1,hz];dsimp;rw [Int.toNat_of_nonneg z0]
  obtain ⟨q,hq⟩:=Go.Deep.choose_lt each;obtain ⟨b,off,spot⟩:=a;have e:∀i,i < len→((List.range len).map q).getD i Itm.z=q i:=fun i hlt=>by simp [List.getD_eq_getElem?_getD,hlt]
  refine ⟨(List.range len).map q,by simp,by omega,fun hpos=>?_,fun r hr=>?_⟩
  ·have hpos':0 < len:=by simpa using hpos
   have h0:=(hq 0 hpos').1;have hs:spot=none:=by simpa [Addr.add] using World.cell?_spot h0
   subst hs;refine ⟨b,off,rfl,by have:=World.block_lt_of_cell? _ _ h0;simpa [Addr.add] using this,fun i j hi hj=>?_⟩;have hi':i < len:=by simpa using hi
   have k2:Itm.k Rn=2:=rfl;rw [k2] at hj ⊢;rw [e i hi'];obtain ⟨a0,a1,_⟩:=hq i hi';rw [Go.WideShapes.add_plain] at a0 a1
   match j,hj with
   | 0,_=>exact a0
   | 1,_=>exact a1
  ·obtain ⟨i,hi,rfl⟩:=List.mem_map.1 hr
   exact (hq i (by simpa using hi)).2.2

structure tM where
 k:Nat
 n:Nat
 p:Option Addr
 c:Nat
 r:List Rn
instance:Inhabited tM:=⟨⟨0,0,none,0,[]⟩⟩
structure nI (w:World) (b o:Nat) (q:tM):Prop where
 k0:w.cell? ⟨b,o,none⟩=some ↑q.k
 k1:w.cell? ⟨b,o + 1,none⟩=some ↑q.n
 k2:w.cell? ⟨b,o + 2,none⟩=some (.slice q.p q.r.length q.c)
 b0:q.k≤↑ω
 b1:q.n≤↑ω
 b2:q.r.length≤9223372036854775807∧Its w q.p q.r∧∀r∈q.r,r.u64
def rG (w:World) (v:Option Addr) (l:List tM) (b off:Nat):Prop:=
 l.length≤9223372036854775807∧(0 < l.length→v=some ⟨b,off,none⟩∧b < w.heap.size)∧∀i,i < l.length→nI w b (off + i * 3) (l.getD i default)
theorem nI.keep {w w':World} {b o:Nat} {q:tM} (h:nI w b o q) (hb:b < w.heap.size) (k:Below ↑w w w'):nI w' b o q:=
 ⟨(k.cell (p:=⟨b,_,none⟩) hb).trans h.k0,(k.cell (p:=⟨b,_,none⟩) hb).trans h.k1,(k.cell (p:=⟨b,_,none⟩) hb).trans h.k2,h.b0,h.b1,h.b2.1,h.b2.2.1.keep k,h.b2.2.2⟩
theorem GO {enc:TypeId × Value→H} {spare:Nat→Bool} {x:DataW H × List MemPlace}
  (h:DataW.trod enc prog w 0 spare held fuel 58 [.slice v len cap]=some x):∃l b off,l.length=len∧rG w v l b off:=by
 rcases Go.Deep.open_slice underlying58 h with ⟨hcs,_⟩ | ⟨a,len',cap',m,n,D,Pl,hcs,_,hl,hm,hmm,_,hi⟩
 ·simp only [List.cons.injEq,Value.slice.injEq,and_true] at hcs
  obtain ⟨rfl,rfl,rfl⟩:=hcs;exact ⟨[],0,0,rfl,by simp,fun h=>absurd h (by simp),fun i hi=>absurd hi (by simp)⟩
 ·simp only [List.cons.injEq,Value.slice.injEq,and_true] at hcs
  obtain ⟨rfl,rfl,rfl⟩:=hcs;have hlm:len≤m:=by rw [hmm];split <;> omega
  have ce:prog.cellsOf 64=3:=by kernel_rfl
  have c0:prog.cellsOf 22=1:=by kernel_rfl
  have c2:prog.cellsOf 62=1:=by kernel_rfl
  unfold maxLen at hm;obtain ⟨b,off,spot⟩:=a;have hs0:0 < len→spot=none:=by
   intro hpos;obtain ⟨cs',h1,_⟩:=hi 0 (by omega);rw [ce] at h1;obtain ⟨_,hlen,hcell⟩:=World.cells?_some h1
   match cs',hlen with
   | [v0,v1,v2],_=>
     have e0:=hcell 0 (by omega);rw [Go.Deep.add_add] at e0;simpa [Addr.add] using World.cell?_spot e0
  have each:∀i,i < len→∃q:tM,spot=none∧b < w.heap.size∧nI w b (off + i * 3) q:=by
   intro i hlt;obtain ⟨cs',h1,h2⟩:=hi i (by omega);rw [ce] at h1;obtain ⟨_,hlen,hcell⟩:=World.cells?_some h1;obtain ⟨xs,k,_,_,_,hxl,hf⟩:=DataW.trod_struct underlying64 h2
   match cs',hlen with
   | [v0,v1,v2],_=>
     have g0:=hf 0 _ rfl;have g1:=hf 1 _ rfl;have g2:=hf 2 _ rfl;have hx0:xs[0]? =some (xs[0]'(by rw [hxl];decide)):=List.getElem?_eq_getElem _;have hx1:xs[1]? =some (xs[1]'(by rw [hxl];decide)):=List.getElem?_eq_getElem _;have hx2:xs[2]? =some (xs[2]'(by rw [hxl];decide)):=List.getElem?_eq_getElem _;rw [hx0] at g0;rw [hx1] at g1;rw [hx2] at g2;simp [c0,c2] at g0 g1 g2
     obtain ⟨z0,hz0,_,hw0⟩:=DataW.trod_int underlying22 g0;obtain ⟨z1,hz1,_,hw1⟩:=DataW.trod_int underlying22 g1;have e3:∃p n c l,v2=.slice p n c∧GN w p n l:=by
      rcases Go.Deep.open_slice underlying62 g2 with ⟨hcs,_⟩ | ⟨a',len',cap',m',n',D',Pl',hcs,_⟩
      ·simp only [List.cons.injEq,and_true] at hcs
       subst hcs;obtain ⟨l,hl⟩:=xP g2;exact ⟨_,_,_,l,rfl,hl⟩
      ·simp only [List.cons.injEq,and_true] at hcs
       subst hcs;obtain ⟨l,hl⟩:=xP g2;exact ⟨_,_,_,l,rfl,hl⟩
     obtain ⟨p3,n3,c3,l3,rfl,hl3,hm3,hi3,hu3⟩:=e3;subst hl3;simp only [List.cons.injEq,and_true] at hz0 hz1;subst hz0 hz1;have e0:=hcell 0 (by omega);have e1:=hcell 1 (by omega);have e2:=hcell 2 (by omega);rw [Go.Deep.add_add] at e0 e1 e2;have hs:=hs0 (by omega);subst hs;rw [Go.WideShapes.add_plain] at e0 e1 e2;obtain ⟨b0,b0'⟩:=bounds_u64 hw0;obtain ⟨b1,b1'⟩:=bounds_u64 hw1;refine ⟨⟨z0.toNat,z1.toNat,p3,c3,l3⟩,rfl,World.block_lt_of_cell? _ _ e0,⟨?_,?_,?_,by dsimp;omega,by dsimp;omega,⟨hm3,hi3,hu3⟩⟩⟩
     ·dsimp;rw [Int.toNat_of_nonneg b0];simpa using e0
     ·dsimp;rw [Int.toNat_of_nonneg b1];simpa [Nat.add_assoc] using e1
     ·dsimp;simpa [Nat.add_assoc] using e2
  obtain ⟨q,hq⟩:=Go.Deep.choose_lt each;refine ⟨(List.range len).map q,b,off,by simp,by simp;omega,fun hpos=>?_,fun i hlt=>?_⟩
  ·have hpos':0 < len:=by simpa using hpos
   obtain ⟨rfl,h2,_⟩:=hq 0 hpos';exact ⟨rfl,h2⟩
  ·simp only [List.length_map,List.length_range] at hlt
   have e:((List.range len).map q).getD i default=q i:=by simp [List.getD_eq_getElem?_getD,hlt]
   rw [e];exact (hq i hlt).2.2
end Go.Proofs.YtjhiooggnpbecaaGreatDoor
