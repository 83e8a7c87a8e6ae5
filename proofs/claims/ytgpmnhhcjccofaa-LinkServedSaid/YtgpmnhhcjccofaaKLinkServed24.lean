/- 5 texts put together: what each one says stands ahead of it. -/
import Derived.Test.YtgpmnhhcjccofaaKLinkServed22
import Derived.Deep.SlicePairs
import Derived.Deep.Fields
import Derived.ProofKit
import Derived.OpenShut
import Derived.Deep.AppendLies
import Derived.Maps.AppendAt
import Derived.OwnWalk
import Derived.Test.YtgpmnhhcjccofaaKLinkServed23
import Derived.Test.YtgpmnhhcjccofaaKLinkServed18
import Derived.Deep.LoopGhost
set_option linter.unusedVariables false
namespace Go.Proofs.Ytgpmnhhcjccofaa
open Go.ChangeShapes Go.WideShapes Go.ChangeAt Go.RowKit
structure InNus (w:World) (v:Option Addr) (n cap:Nat) (l:List Nat):Prop where
 len:l.length=n
 le:n≤cap
 big:cap≤9223372036854775807
 nus:Nus w v l
 mx:∀x∈l,x≤18446744073709551615
theorem InNus.lt {w:World} {v:Option Addr} {len cap:Nat} {l:List Nat} (h:InNus w v len cap l) (hp:0 < l.length):∀a,v=some a→a.block < w.heap.size:=by
 obtain ⟨b,off,e,hb,_⟩:=h.nus hp
 intro a ha
 rw [e] at ha
 injection ha with ha
 subst ha
 exact hb
theorem InNus.keep {w w':World} {v:Option Addr} {len cap:Nat} {l:List Nat} (h:InNus w v len cap l) (k:Below w.heap.size w w'):InNus w' v len cap l:=⟨h.len,h.le,h.big,h.nus.keep k,h.mx⟩
theorem in_nus {H:Type} {enc:TypeId × Value→H} {w:World} {fuel:Nat} {spare:Nat→Bool} {held:Bool} {v:Option Addr} {len cap:Nat} {x:DataW H × List MemPlace}
  (h:DataW.trod enc Try.prog w 0 spare held fuel 36 [.slice v len cap]=some x):∃l,InNus w v len cap l:=by
 rcases Go.Deep.open_slice Try.underlying36 h with ⟨hcs,_⟩ | ⟨a,len',cap',m,n,D,Pl,hcs,_,hl,hm,hmm,_,hi⟩
 ·simp only [List.cons.injEq,Value.slice.injEq,and_true] at hcs
  obtain ⟨rfl,rfl,rfl⟩:=hcs
  exact ⟨[],rfl,by omega,by omega,Nus.nil _ _,fun r hr=>by cases hr⟩
 ·simp only [List.cons.injEq,Value.slice.injEq,and_true] at hcs
  obtain ⟨rfl,rfl,rfl⟩:=hcs
  have hlm:len≤m:=by rw [hmm];split <;> omega
  have ce:Try.prog.cellsOf 22=1:=by kernel_rfl
  unfold maxLen at hm
  have each:∀i,i < len→∃q:Nat,w.cell? (a.add i)=some (.int .u64 (q:Int))∧q≤18446744073709551615:=by
   intro i hlt
   obtain ⟨cs',h1,h2⟩:=hi i (by omega)
   rw [ce,Nat.mul_one] at h1
   obtain ⟨_,hlen,hcell⟩:=World.cells?_some h1
   match cs',hlen with
   | [v0],_=>
     obtain ⟨z0,hz0,_,hw0⟩:=DataW.trod_int Try.underlying22 h2
     simp only [List.cons.injEq,and_true] at hz0
     subst hz0
     obtain ⟨b0,b0'⟩:=bounds_u64 hw0
     have e0:=hcell 0 (by omega)
     rw [Go.Deep.add_add] at e0
     exact ⟨z0.toNat,by rw [Int.toNat_of_nonneg b0];simpa using e0,by omega⟩
  obtain ⟨q,hq⟩:=Go.Deep.choose_lt each
  obtain ⟨b,off,spot⟩:=a
  refine ⟨(List.range len).map q,by simp,hl,by omega,fun hpos=>?_,fun r hr=>?_⟩
  ·have hpos':0 < len:=by simpa using hpos
   have h0:=(hq 0 hpos').1
   have hs:spot=none:=by simpa [Addr.add] using World.cell?_spot h0
   subst hs
   refine ⟨b,off,rfl,by have:=World.block_lt_of_cell? _ _ h0;simpa [Addr.add] using this,fun i hi=>?_⟩
   have hi':i < len:=by simpa using hi
   have:=(hq i hi').1
   rw [Go.WideShapes.add_plain] at this
   rw [this]
   simp [List.getD_eq_getElem?_getD,hi']
  ·obtain ⟨i,hi,rfl⟩:=List.mem_map.1 hr
   exact (hq i (by simpa using hi)).2
structure Act21 where
 tick:Bool
 p1:Option Addr
 c1:Nat
 sizes:List Nat
 after:Nat
 waste:Nat
 p2:Option Addr
 c2:Nat
 choices:List Nat
instance:Inhabited Act21:=⟨⟨false,none,0,[],0,0,none,0,[]⟩⟩
structure Act21At (w:World) (b o:Nat) (q:Act21):Prop where
 k0:w.cell? ⟨b,o,none⟩=some (.bool q.tick)
 k1:w.cell? ⟨b,o + 1,none⟩=some (.slice q.p1 q.sizes.length q.c1)
 k2:w.cell? ⟨b,o + 2,none⟩=some (.int .u64 (q.after:Int))
 k3:w.cell? ⟨b,o + 3,none⟩=some (.int .u64 (q.waste:Int))
 k4:w.cell? ⟨b,o + 4,none⟩=some (.slice q.p2 q.choices.length q.c2)
 s1:InNus w q.p1 q.sizes.length q.c1 q.sizes
 b2:q.after≤18446744073709551615
 b3:q.waste≤18446744073709551615
 s4:InNus w q.p2 q.choices.length q.c2 q.choices
def InAct21 (w:World) (v:Option Addr) (l:List Act21) (b off:Nat):Prop:=
 l.length≤9223372036854775807∧(0 < l.length→v=some ⟨b,off,none⟩∧b < w.heap.size)∧∀i,i < l.length→Act21At w b (off + i * 5) (l.getD i default)
theorem Act21At.keep {w w':World} {b o:Nat} {q:Act21} (h:Act21At w b o q) (hb:b < w.heap.size) (k:Below w.heap.size w w'):Act21At w' b o q:=
 ⟨(k.cell (p:=⟨b,_,none⟩) hb).trans h.k0,(k.cell (p:=⟨b,_,none⟩) hb).trans h.k1,(k.cell (p:=⟨b,_,none⟩) hb).trans h.k2,(k.cell (p:=⟨b,_,none⟩) hb).trans h.k3,(k.cell (p:=⟨b,_,none⟩) hb).trans h.k4,h.s1.keep k,h.b2,h.b3,h.s4.keep k⟩
theorem InAct21.keep {w w':World} {v:Option Addr} {l:List Act21} {b off:Nat} (h:InAct21 w v l b off) (k:Below w.heap.size w w'):InAct21 w' v l b off:=
 ⟨h.1,fun hp=>⟨(h.2.1 hp).1,Nat.lt_of_lt_of_le (h.2.1 hp).2 k.size⟩,fun i hi=>(h.2.2 i hi).keep (h.2.1 (by omega)).2 k⟩
theorem any_nus {H:Type} {enc:TypeId × Value→H} {w:World} {fuel:Nat} {spare:Nat→Bool} {held:Bool} {v:Value} {x:DataW H × List MemPlace}
  (h:DataW.trod enc Try.prog w 0 spare held fuel 36 [v]=some x):∃p n c l,v=.slice p n c∧InNus w p n c l:=by
 rcases Go.Deep.open_slice Try.underlying36 h with ⟨hcs,_⟩ | ⟨a',len',cap',m',n',D',Pl',hcs,_⟩
 ·simp only [List.cons.injEq,and_true] at hcs
  subst hcs
  obtain ⟨l,hl⟩:=in_nus h
  exact ⟨_,_,_,l,rfl,hl⟩
 ·simp only [List.cons.injEq,and_true] at hcs
  subst hcs
  obtain ⟨l,hl⟩:=in_nus h
  exact ⟨_,_,_,l,rfl,hl⟩
set_option maxRecDepth 100000 in
theorem in_act21 {H:Type} {enc:TypeId × Value→H} {w:World} {fuel:Nat} {spare:Nat→Bool} {held:Bool} {v:Option Addr} {len cap:Nat} {x:DataW H × List MemPlace}
  (h:DataW.trod enc Try.prog w 0 spare held fuel 25 [.slice v len cap]=some x):∃l b off,l.length=len∧InAct21 w v l b off:=by
 rcases Go.Deep.open_slice Try.underlying25 h with ⟨hcs,_⟩ | ⟨a,len',cap',m,n,D,Pl,hcs,_,hl,hm,hmm,_,hi⟩
 ·simp only [List.cons.injEq,Value.slice.injEq,and_true] at hcs
  obtain ⟨rfl,rfl,rfl⟩:=hcs
  exact ⟨[],0,0,rfl,by simp,fun h=>absurd h (by simp),fun i hi=>absurd hi (by simp)⟩
 ·simp only [List.cons.injEq,Value.slice.injEq,and_true] at hcs
  obtain ⟨rfl,rfl,rfl⟩:=hcs
  have hlm:len≤m:=by rw [hmm];split <;> omega
  have ce:Try.prog.cellsOf 38=5:=by kernel_rfl
  have c0:Try.prog.cellsOf 4=1:=by kernel_rfl
  have c1:Try.prog.cellsOf 22=1:=by kernel_rfl
  have c2:Try.prog.cellsOf 36=1:=by kernel_rfl
  unfold maxLen at hm
  obtain ⟨b,off,spot⟩:=a
  have hs0:0 < len→spot=none:=by
   intro hpos
   obtain ⟨cs',h1,_⟩:=hi 0 (by omega)
   rw [ce] at h1
   obtain ⟨_,hlen,hcell⟩:=World.cells?_some h1
   match cs',hlen with
   | [v0,v1,v2,v3,v4],_=>
     have e0:=hcell 0 (by omega)
     rw [Go.Deep.add_add] at e0
     simpa [Addr.add] using World.cell?_spot e0
  have each:∀i,i < len→∃q:Act21,spot=none∧b < w.heap.size∧Act21At w b (off + i * 5) q:=by
   intro i hlt
   obtain ⟨cs',h1,h2⟩:=hi i (by omega)
   rw [ce] at h1
   obtain ⟨_,hlen,hcell⟩:=World.cells?_some h1
   obtain ⟨xs,k,_,_,_,hxl,hf⟩:=DataW.trod_struct Try.underlying38 h2
   match cs',hlen with
   | [v0,v1,v2,v3,v4],_=>
     have g0:=hf 0 _ rfl
     have g1:=hf 1 _ rfl
     have g2:=hf 2 _ rfl
     have g3:=hf 3 _ rfl
     have g4:=hf 4 _ rfl
     have hx0:xs[0]? =some (xs[0]'(by rw [hxl];decide)):=List.getElem?_eq_getElem _
     have hx1:xs[1]? =some (xs[1]'(by rw [hxl];decide)):=List.getElem?_eq_getElem _
     have hx2:xs[2]? =some (xs[2]'(by rw [hxl];decide)):=List.getElem?_eq_getElem _
     have hx3:xs[3]? =some (xs[3]'(by rw [hxl];decide)):=List.getElem?_eq_getElem _
     have hx4:xs[4]? =some (xs[4]'(by rw [hxl];decide)):=List.getElem?_eq_getElem _
     rw [hx0] at g0
     rw [hx1] at g1
     rw [hx2] at g2
     rw [hx3] at g3
     rw [hx4] at g4
     simp [c0,c1,c2] at g0 g1 g2 g3 g4
     obtain ⟨z0,hz0,_⟩:=DataW.trod_bool Try.underlying4 g0
     obtain ⟨p1,n1,d1,l1,rfl,hl1⟩:=any_nus g1
     obtain ⟨z2,hz2,_,hw2⟩:=DataW.trod_int Try.underlying22 g2
     obtain ⟨z3,hz3,_,hw3⟩:=DataW.trod_int Try.underlying22 g3
     obtain ⟨p4,n4,d4,l4,rfl,hl4⟩:=any_nus g4
     simp only [List.cons.injEq,and_true] at hz0 hz2 hz3
     subst hz0 hz2 hz3
     have n1':=hl1.len
     have n4':=hl4.len
     subst n1' n4'
     have e0:=hcell 0 (by omega)
     have e1:=hcell 1 (by omega)
     have e2:=hcell 2 (by omega)
     have e3:=hcell 3 (by omega)
     have e4:=hcell 4 (by omega)
     rw [Go.Deep.add_add] at e0 e1 e2 e3 e4
     have hs:=hs0 (by omega)
     subst hs
     rw [Go.WideShapes.add_plain] at e0 e1 e2 e3 e4
     obtain ⟨b2,b2'⟩:=bounds_u64 hw2
     obtain ⟨b3,b3'⟩:=bounds_u64 hw3
     refine ⟨⟨z0,p1,d1,l1,z2.toNat,z3.toNat,p4,d4,l4⟩,rfl,World.block_lt_of_cell? _ _ e0,⟨?_,?_,?_,?_,?_,hl1,by dsimp;omega,by dsimp;omega,hl4⟩⟩
     ·dsimp;simpa using e0
     ·dsimp;simpa [Nat.add_assoc] using e1
     ·dsimp;rw [Int.toNat_of_nonneg b2];simpa [Nat.add_assoc] using e2
     ·dsimp;rw [Int.toNat_of_nonneg b3];simpa [Nat.add_assoc] using e3
     ·dsimp;simpa [Nat.add_assoc] using e4
  obtain ⟨q,hq⟩:=Go.Deep.choose_lt each
  refine ⟨(List.range len).map q,b,off,by simp,by simp;omega,fun hpos=>?_,fun i hlt=>?_⟩
  ·have hpos':0 < len:=by simpa using hpos
   obtain ⟨rfl,hb,_⟩:=hq 0 hpos'
   exact ⟨rfl,hb⟩
  ·have hlt':i < len:=by simpa using hlt
   obtain ⟨_,_,h3⟩:=hq i hlt'
   have e:((List.range len).map q).getD i default=q i:=by simp [List.getD_eq_getElem?_getD,hlt']
   rw [e]
   exact h3
set_option maxRecDepth 100000 in
theorem in_path {H:Type} {enc:TypeId × Value→H} {w:World} {base b0:Nat} {r:Reach} {spare:Nat→Bool} {held:Bool} {v:Value} {d:DataW H} {p:List MemPlace}
  (hv:Value.okWide Try.prog w r b0 24 v) (h:DataW.Trod enc Try.prog w base spare held 24 v d p):∃x0 x1 x2 x3:Nat,(x0≤18446744073709551615∧x1≤18446744073709551615∧x2≤18446744073709551615∧x3≤18446744073709551615)∧v=.agg #[.int .u64 (x0:Int),.int .u64 (x1:Int),.int .u64 (x2:Int),.int .u64 (x3:Int)]:=by
 have ce:Try.prog.cellsOf 24=4:=by kernel_rfl
 have c0:Try.prog.cellsOf 22=1:=by kernel_rfl
 obtain ⟨cs,rfl,hsz⟩:=okWide_struct Try.underlying24 hv
 rw [ce] at hsz
 obtain ⟨l⟩:=cs
 obtain ⟨fuel,ht⟩:=h
 obtain ⟨xs,n,_,_,_,hlen,hg⟩:=DataW.trod_struct Try.underlying24 ht
 match l,hsz with
 | [v0,v1,v2,v3],_=>
   have g0:=hg 0 _ rfl
   have g1:=hg 1 _ rfl
   have g2:=hg 2 _ rfl
   have g3:=hg 3 _ rfl
   have hx0:xs[0]? =some (xs[0]'(by rw [hlen];decide)):=List.getElem?_eq_getElem _
   have hx1:xs[1]? =some (xs[1]'(by rw [hlen];decide)):=List.getElem?_eq_getElem _
   have hx2:xs[2]? =some (xs[2]'(by rw [hlen];decide)):=List.getElem?_eq_getElem _
   have hx3:xs[3]? =some (xs[3]'(by rw [hlen];decide)):=List.getElem?_eq_getElem _
   rw [hx0] at g0
   rw [hx1] at g1
   rw [hx2] at g2
   rw [hx3] at g3
   simp [c0,Value.cells] at g0 g1 g2 g3
   obtain ⟨z0,hz0,_,hw0⟩:=DataW.trod_int Try.underlying22 g0
   obtain ⟨z1,hz1,_,hw1⟩:=DataW.trod_int Try.underlying22 g1
   obtain ⟨z2,hz2,_,hw2⟩:=DataW.trod_int Try.underlying22 g2
   obtain ⟨z3,hz3,_,hw3⟩:=DataW.trod_int Try.underlying22 g3
   simp only [List.cons.injEq,and_true] at hz0 hz1 hz2 hz3
   subst hz0 hz1 hz2 hz3
   obtain ⟨a0,b0⟩:=bounds_u64 hw0
   obtain ⟨a1,b1⟩:=bounds_u64 hw1
   obtain ⟨a2,b2⟩:=bounds_u64 hw2
   obtain ⟨a3,b3⟩:=bounds_u64 hw3
   obtain ⟨z0,rfl⟩:=Int.eq_ofNat_of_zero_le a0
   obtain ⟨z1,rfl⟩:=Int.eq_ofNat_of_zero_le a1
   obtain ⟨z2,rfl⟩:=Int.eq_ofNat_of_zero_le a2
   obtain ⟨z3,rfl⟩:=Int.eq_ofNat_of_zero_le a3
   exact ⟨z0,z1,z2,z3,⟨by omega,by omega,by omega,by omega⟩,rfl⟩
set_option maxRecDepth 100000 in
theorem in_two32 {H:Type} {enc:TypeId × Value→H} {w:World} {base b0:Nat} {r:Reach} {spare:Nat→Bool} {held:Bool} {v:Value} {d:DataW H} {p:List MemPlace}
  (hv:Value.okWide Try.prog w r b0 77 v) (h:DataW.Trod enc Try.prog w base spare held 77 v d p):
  ∃x0 x1:Nat,(x0≤4294967295∧x1≤4294967295)∧v=.agg #[.int .u32 (x0:Int),.int .u32 (x1:Int)]:=by
 have ce:Try.prog.cellsOf 77=2:=by kernel_rfl
 have c0:Try.prog.cellsOf 76=1:=by kernel_rfl
 obtain ⟨cs,rfl,hsz,_⟩:∃cs,v=.agg cs∧cs.size=Try.prog.cellsOf 77∧Row.okWide Try.prog w r b0 77 cs:=by
  simpa [Value.okWide,Try.underlying77] using hv
 rw [ce] at hsz
 obtain ⟨l⟩:=cs
 obtain ⟨fuel,ht⟩:=h
 obtain ⟨xs,n,_,_,_,hlen,hg⟩:=DataW.trod_array Try.underlying77 ht
 match l,hsz with
 | [v0,v1],_=>
   have g0:=hg 0 (by decide)
   have g1:=hg 1 (by decide)
   have hx0:xs[0]? =some (xs[0]'(by rw [hlen];decide)):=List.getElem?_eq_getElem _
   have hx1:xs[1]? =some (xs[1]'(by rw [hlen];decide)):=List.getElem?_eq_getElem _
   rw [hx0] at g0
   rw [hx1] at g1
   simp [c0,Value.cells] at g0 g1
   obtain ⟨z0,hz0,_,hw0⟩:=DataW.trod_int Try.underlying76 g0
   obtain ⟨z1,hz1,_,hw1⟩:=DataW.trod_int Try.underlying76 g1
   simp only [List.cons.injEq,and_true] at hz0 hz1
   subst hz0 hz1
   obtain ⟨a0,b0⟩:=bounds_u32 hw0
   obtain ⟨a1,b1⟩:=bounds_u32 hw1
   obtain ⟨z0,rfl⟩:=Int.eq_ofNat_of_zero_le a0
   obtain ⟨z1,rfl⟩:=Int.eq_ofNat_of_zero_le a1
   exact ⟨z0,z1,⟨by omega,by omega⟩,rfl⟩
end Go.Proofs.Ytgpmnhhcjccofaa

set_option linter.unusedVariables false
namespace Go.Proofs.Ytgpmnhhcjccofaa
open Go.RowKit
def fit1 (q:Act21):Bool:=decide (q.sizes.length≤60) && decide (q.choices.length≤60)
def fits21 (l:List Act21):Bool:=decide (l.length≤60) && l.all fit1
theorem getD_mem {l:List Act21} {k:Nat} (h:k < l.length):l.getD k default∈l:=by simp [List.getD_eq_getElem?_getD,h]
theorem all_of {l:List Act21} {f:Act21→Bool} (h:∀j,j < l.length→f (l.getD j default)=true):l.all f=true:=by
 rw [List.all_eq_true]
 intro q hq
 obtain ⟨i,hi,rfl⟩:=List.mem_iff_getElem.1 hq
 have:=h i hi
 simpa [List.getD_eq_getElem?_getD,hi] using this
set_option maxHeartbeats 800000 in
theorem fits21_any (l:List Act21) (v:Option Addr) (c b off:Nat) (W:World) (h:InAct21 W v l b off):
  Calls Try.prog 7 #[.slice v l.length c] W fun e w'=>e=.returned (.bool (fits21 l))∧w'=W:=by
 obtain ⟨h1,h2,h3⟩:=h
 have H3:=Lib.hid h3
 have H2:=Lib.hid h2
 clear h3 h2
 go_enter Try.func7,Try.ntmps7
 go_wp2
 go_loop [3] (fun i=>∃k:Nat,i=.int .i64 (k:Int)∧k≤l.length∧k≤61∧∀j,j < k→fit1 (l.getD j default)=true) (fun i=>61 - (intOf i).toNat)
 case atStart=>exact ⟨0,rfl,Nat.zero_le _,by omega,fun j hj=>absurd hj (by omega)⟩
 case round=>
  obtain ⟨k,rfl,hk,hk1,hall⟩:=hrel
  have HA:=Lib.hid hall
  clear hall
  by_cases hlt:k < l.length
  ·by_cases hk2:k≤60
   ·obtain ⟨rfl,hb⟩:=H2.out (by omega)
    have A:=H3.out k hlt
    have a1:=A.k1
    have a4:=A.k4
    have i0:(0:Int)≤(k:Int):=by omega
    have i1:(k:Int) < (l.length:Int):=by omega
    have hd1:decide ((k:Int)≤60)=true:=by simp;omega
    have HM:=Lib.hid (getD_mem hlt)
    clear A
    obtain ⟨q,hq⟩:∃q,q=l.getD k default:=⟨_,rfl⟩
    rw [← hq] at a1 a4 HM
    have HQ:=Lib.hid hq
    clear hq
    have HF:Hid (fit1 q=false→fits21 l=false):=Lib.hid (fun h=>by
     unfold fits21
     rw [Bool.and_eq_false_iff]
     right
     rw [List.all_eq_false]
     exact ⟨q,HM.out,by rw [h];decide⟩)
    by_cases hl:q.sizes.length≤60
    ·by_cases hl2:q.choices.length≤60
     ·have HL:Hid (fit1 q=true):=Lib.hid (by unfold fit1;rw [decide_eq_true hl,decide_eq_true hl2];rfl)
      generalize q.sizes.length=n at *
      generalize q.choices.length=m at *
      have hd2:decide ((60:Int) < (n:Int))=false:=by simp;omega
      have hd3:decide ((60:Int) < (m:Int))=false:=by simp;omega
      go_wp2
      go_round
      case rel=>exact ⟨k + 1,by go_num,by omega,by omega,fun j hj=>by
       by_cases e:j=k
       ·subst e;rw [← HQ.out];exact HL.out
       ·exact HA.out j (by omega)⟩
      case measure=>simp [intOf];omega
     ·have HL:Hid (fit1 q=false):=Lib.hid (by unfold fit1;rw [decide_eq_false hl2,Bool.and_false])
      generalize q.sizes.length=n at *
      generalize q.choices.length=m at *
      have hd2:decide ((60:Int) < (n:Int))=false:=by simp;omega
      have hd3:decide ((60:Int) < (m:Int))=true:=by simp;omega
      go_wp2
      go_ret
      exact ⟨by rw [HF.out HL.out];rfl,rfl⟩
    ·have HL:Hid (fit1 q=false):=Lib.hid (by unfold fit1;rw [decide_eq_false hl,Bool.false_and])
     generalize q.sizes.length=n at *
     have hd2:decide ((60:Int) < (n:Int))=true:=by simp;omega
     go_wp2
     go_ret
     exact ⟨by rw [HF.out HL.out];rfl,rfl⟩
   ·have hd1:decide ((k:Int)≤60)=false:=by simp;omega
    have hd2:decide ((l.length:Int)≤60)=false:=by simp;omega
    have HF:Hid (fits21 l=false):=Lib.hid (by
     unfold fits21
     rw [Bool.and_eq_false_iff]
     left
     simp;omega)
    go_wp2
    go_ret
    exact ⟨by rw [HF.out];rfl,rfl⟩
  ·obtain rfl:k=l.length:=by omega
   have HF:Hid (fits21 l=decide ((l.length:Int)≤60)):=Lib.hid (by
    unfold fits21
    rw [all_of HA.out,Bool.and_true]
    exact decide_eq_decide.2 (by omega))
   go_wp2
   go_ret
   exact ⟨by rw [HF.out];rfl,rfl⟩
def small1 (r:Nat) (q:Act21):Bool:=decide (q.after≤1073741824) && (decide (r≤1048576) && q.sizes.all fun x=>decide (x≤1073741824))
def small21 (r:Nat) (l:List Act21):Bool:=l.all (small1 r)
theorem small_no {r:Nat} {l:List Act21} {q:Act21} (hm:q∈l) (h:small1 r q=false):small21 r l=false:=by
 unfold small21
 rw [List.all_eq_false]
 exact ⟨q,hm,by rw [h];decide⟩
set_option maxHeartbeats 1000000 in
theorem small21_any (r d j b0:Nat) (l:List Act21) (v:Option Addr) (c b off:Nat) (W:World) (h:InAct21 W v l b off):
  Calls Try.prog 21 #[.agg #[.int .u64 (r:Int),.int .u64 (d:Int),.int .u64 (j:Int),.int .u64 (b0:Int)],.slice v l.length c] W fun e w'=>e=.returned (.bool (small21 r l))∧Below W.heap.size W w':=by
 have HI:=Lib.hid (h.keep (al_be W (.cells #[.int .u64 (r:Int),.int .u64 (d:Int),.int .u64 (j:Int),.int .u64 (b0:Int)] 24)))
 have HB:=Lib.hid (al_be W (.cells #[.int .u64 (r:Int),.int .u64 (d:Int),.int .u64 (j:Int),.int .u64 (b0:Int)] 24))
 have hr0:=(Blk.new W 24 #[.int .u64 (r:Int),.int .u64 (d:Int),.int .u64 (j:Int),.int .u64 (b0:Int)]).cell (i:=0) (v:=.int .u64 (r:Int)) rfl
 clear h
 go_enter Try.func21,Try.ntmps21
 go_wp2
 generalize hz:W.heap.size=z at *
 have HZ:=Lib.hid hz
 clear hz
 generalize W.alloc (.cells #[.int .u64 (r:Int),.int .u64 (d:Int),.int .u64 (j:Int),.int .u64 (b0:Int)] 24)=w0 at *
 go_loop [5] (fun i=>∃k:Nat,i=.int .i64 (k:Int)∧k≤l.length∧∀j,j < k→small1 r (l.getD j default)=true) (fun i=>l.length - (intOf i).toNat)
 case atStart=>exact ⟨0,rfl,Nat.zero_le _,fun j hj=>absurd hj (by omega)⟩
 case round=>
  obtain ⟨k,rfl,hk,hall⟩:=hrel
  have HA:=Lib.hid hall
  clear hall
  have hlm:=HI.out.1
  by_cases hlt:k < l.length
  ·obtain ⟨rfl,hb⟩:=HI.out.2.1 (by omega)
   have A:=HI.out.2.2 k hlt
   have a1:=A.k1
   have a2:=A.k2
   have HN:=Lib.hid A.s1
   have i0:(0:Int)≤(k:Int):=by omega
   have i1:(k:Int) < (l.length:Int):=by omega
   have HM:=Lib.hid (getD_mem hlt)
   clear A
   obtain ⟨q,hq⟩:∃q,q=l.getD k default:=⟨_,rfl⟩
   rw [← hq] at a1 a2 HM HN
   have HQ:=Lib.hid hq
   clear hq
   have HF:=Lib.hid (small_no (r:=r) HM.out)
   have hc1:decide (1073741824 < q.after)=!decide (q.after≤1073741824):=by rw [← decide_not];exact decide_eq_decide.2 (by omega)
   have hc2:decide (1048576 < r)=!decide (r≤1048576):=by rw [← decide_not];exact decide_eq_decide.2 (by omega)
   have HS:Hid (small1 r q=(decide (q.after≤1073741824) && (decide (r≤1048576) && q.sizes.all fun x=>decide (x≤1073741824)))):=Lib.hid rfl
   generalize q.after=t at *
   cases h1:decide (t≤1073741824) with
   | false=>
     rw [h1] at hc1 HS
     rw [Bool.not_false] at hc1
     have hc1':decide ((1073741824:Int) < (t:Int))=true:=by rw [← hc1];exact decide_eq_decide.2 (by omega)
     clear h1 hc2
     go_wp2
     go_ret
     exact ⟨by rw [HF.out HS.out];rfl,HZ.out▸HB.out⟩
   | true=>
     rw [h1] at hc1 HS
     rw [Bool.not_true] at hc1
     have hc1':decide ((1073741824:Int) < (t:Int))=false:=by rw [← hc1];exact decide_eq_decide.2 (by omega)
     clear h1
     cases h2:decide (r≤1048576) with
     | false=>
       rw [h2] at hc2 HS
       rw [Bool.not_false] at hc2
       have hc2':decide ((1048576:Int) < (r:Int))=true:=by rw [← hc2];exact decide_eq_decide.2 (by omega)
       clear h2
       go_wp2
       go_ret
       exact ⟨by rw [HF.out HS.out];rfl,HZ.out▸HB.out⟩
     | true=>
       rw [h2] at hc2 HS
       rw [Bool.not_true] at hc2
       have hc2':decide ((1048576:Int) < (r:Int))=false:=by rw [← hc2];exact decide_eq_decide.2 (by omega)
       clear h2
       have HS2:Hid (small1 r q=q.sizes.all fun x=>decide (x≤1073741824)):=Lib.hid (by rw [HS.out];simp)
       clear HS
       go_wp2
       go_loop [6] (fun i=>∃m:Nat,i=.int .i64 (m:Int)∧m≤q.sizes.length∧∀j,j < m→q.sizes.getD j 0≤1073741824) (fun i=>q.sizes.length - (intOf i).toNat)
       case atStart=>exact ⟨0,rfl,Nat.zero_le _,fun j hj=>absurd hj (by omega)⟩
       case round=>
        obtain ⟨m,rfl,hm,hall⟩:=hrel
        have HA2:=Lib.hid hall
        clear hall
        have hsm:q.sizes.length≤9223372036854775807:=Nat.le_trans HN.out.le HN.out.big
        by_cases hmt:m < q.sizes.length
        ·obtain ⟨b2,o2,hp,_,hcs⟩:=HN.out.nus (by omega)
         have hc:=hcs m hmt
         rw [hp] at a1
         have m0:(0:Int)≤(m:Int):=by omega
         have m1:(m:Int) < (q.sizes.length:Int):=by omega
         have HMm:Hid (q.sizes.getD m 0∈q.sizes):=Lib.hid (by simp [List.getD_eq_getElem?_getD,hmt])
         have HXm:=Lib.hid (show ∃x,x=q.sizes.getD m 0 from ⟨_,rfl⟩)
         obtain ⟨x,hx⟩:=HXm.out
         rw [← hx] at hc
         have HX:=Lib.hid hx
         clear hx hcs HXm
         by_cases hx1:x≤1073741824
         ·have hd:decide (1073741824 < x)=false:=by simp;omega
          have hd':decide ((1073741824:Int) < (x:Int))=false:=by simp;omega
          go_wp2
          go_round
          case rel=>exact ⟨m + 1,by go_num,by omega,fun j hj=>by
           by_cases e:j=m
           ·subst e;rw [← HX.out];exact hx1
           ·exact HA2.out j (by omega)⟩
          case measure=>simp [intOf];omega
         ·have hd:decide (1073741824 < x)=true:=by simp;omega
          have hd':decide ((1073741824:Int) < (x:Int))=true:=by simp;omega
          have HL:Hid (small1 r q=false):=Lib.hid (by
           rw [HS2.out,List.all_eq_false]
           exact ⟨x,by rw [HX.out];exact HMm.out,by simpa using hx1⟩)
          clear hx1
          go_wp2
          go_ret
          exact ⟨by rw [HF.out HL.out];rfl,HZ.out▸HB.out⟩
        ·obtain rfl:m=q.sizes.length:=by omega
         have HL:Hid (small1 r q=true):=Lib.hid (by
          rw [HS2.out,List.all_eq_true]
          intro x hx
          obtain ⟨i,hi,rfl⟩:=List.mem_iff_getElem.1 hx
          have:=HA2.out i hi
          simpa [List.getD_eq_getElem?_getD,hi] using this)
         go_wp2
         go_round
         case rel=>exact ⟨k + 1,by go_num,by omega,fun j hj=>by
          by_cases e:j=k
          ·subst e;rw [← HQ.out];exact HL.out
          ·exact HA.out j (by omega)⟩
         case measure=>simp [intOf];omega
  ·obtain rfl:k=l.length:=by omega
   have HF:Hid (small21 r l=true):=Lib.hid (all_of HA.out)
   go_wp2
   go_ret
   exact ⟨by rw [HF.out];rfl,HZ.out▸HB.out⟩
end Go.Proofs.Ytgpmnhhcjccofaa

set_option linter.unusedVariables false
namespace Go.Proofs.Ytgpmnhhcjccofaa
open Go.RowKit
theorem rf_Right (r d j b:Nat) (W:World):Calls Try.prog 12 #[.agg #[.int .u64 (r:Int),.int .u64 (d:Int),.int .u64 (j:Int),.int .u64 (b:Int)]] W fun e w'=>e=.returned (.bool (rightP r d j b))∧Below W.heap.size W w':=by
 unfold rightP
 obtain ⟨q0,hq0⟩:∃q,q=decide (1≤r):=⟨_,rfl⟩
 have g0:decide ((1:Int)≤(r:Int))=q0:=by rw [hq0];apply decide_eq_decide.2;omega
 obtain ⟨q1,hq1⟩:∃q,q=decide (r≤1099511627776):=⟨_,rfl⟩
 have g1:decide ((r:Int)≤(1099511627776:Int))=q1:=by rw [hq1];apply decide_eq_decide.2;omega
 obtain ⟨q2,hq2⟩:∃q,q=decide (d≤4398046511104):=⟨_,rfl⟩
 have g2:decide ((d:Int)≤(4398046511104:Int))=q2:=by rw [hq2];apply decide_eq_decide.2;omega
 obtain ⟨q3,hq3⟩:∃q,q=decide (j≤4398046511104):=⟨_,rfl⟩
 have g3:decide ((j:Int)≤(4398046511104:Int))=q3:=by rw [hq3];apply decide_eq_decide.2;omega
 obtain ⟨q4,hq4⟩:∃q,q=decide (1≤b):=⟨_,rfl⟩
 have g4:decide ((1:Int)≤(b:Int))=q4:=by rw [hq4];apply decide_eq_decide.2;omega
 obtain ⟨q5,hq5⟩:∃q,q=decide (b≤72057594037927936):=⟨_,rfl⟩
 have g5:decide ((b:Int)≤(72057594037927936:Int))=q5:=by rw [hq5];apply decide_eq_decide.2;omega
 rw [← hq0,← hq1,← hq2,← hq3,← hq4,← hq5]
 replace hq0:=hq0.symm
 replace hq1:=hq1.symm
 replace hq2:=hq2.symm
 replace hq3:=hq3.symm
 replace hq4:=hq4.symm
 replace hq5:=hq5.symm
 cases q0 with
 | false=>
   go_enter Try.func12,Try.ntmps12
   go_wp2
   go_ret
   exact ⟨rfl,al_be _ _⟩
 | true=>
   cases q1 with
   | false=>
     go_enter Try.func12,Try.ntmps12
     go_wp2
     go_ret
     exact ⟨rfl,al_be _ _⟩
   | true=>
     cases q2 with
     | false=>
       go_enter Try.func12,Try.ntmps12
       go_wp2
       go_ret
       exact ⟨rfl,al_be _ _⟩
     | true=>
       cases q3 with
       | false=>
         go_enter Try.func12,Try.ntmps12
         go_wp2
         go_ret
         exact ⟨rfl,al_be _ _⟩
       | true=>
         cases q4 with
         | false=>
           go_enter Try.func12,Try.ntmps12
           go_wp2
           go_ret
           exact ⟨rfl,al_be _ _⟩
         | true=>
           cases q5 with
           | false=>
             go_enter Try.func12,Try.ntmps12
             go_wp2
             go_ret
             exact ⟨rfl,al_be _ _⟩
           | true=>
             go_enter Try.func12,Try.ntmps12
             go_wp2
             go_ret
             exact ⟨rfl,al_be _ _⟩
def newP (n x:Nat):Pk:=⟨n,x,0,0,0,0,false⟩
def pkts (f:Nat) (l:List Nat):List Pk:=l.mapIdx fun i x=>newP (f + i) x
theorem pkts_len (f:Nat) (l:List Nat):(pkts f l).length=l.length:=by simp [pkts]
theorem pkts_snoc (f:Nat) (l:List Nat) (x:Nat):pkts f (l ++ [x])=pkts f l ++ [newP (f + l.length) x]:=by simp [pkts,List.mapIdx_append]
theorem pkts_size {f:Nat} {l:List Nat} {M:Nat} (h:∀x∈l,x≤M):∀p∈pkts f l,p.size≤M:=by
 intro p hp
 unfold pkts at hp
 obtain ⟨i,hi,rfl⟩:=List.mem_mapIdx.1 hp
 exact h _ (List.getElem_mem _)
theorem take_nat (l:List Nat) (k:Nat) (h:k < l.length):l.take (k + 1)=l.take k ++ [l.getD k 0]:=by
 rw [List.take_add_one];simp [h]
theorem pk_info21:(Try.prog.info? 68).map (fun i=>(i.zero,i.size,i.bytes))=some (some (.agg #[.int .u64 0,.int .u64 0,.int .u64 0,.int .u64 0,.int .u64 0,.int .u64 0,.bool false]),7,56):=by kernel_rfl
set_option maxRecDepth 100000 in
set_option maxHeartbeats 1000000 in
theorem packets_any (f:Nat) (l:List Nat) (ao:Option Addr) (cap:Nat) (W:World) (h:InNus W ao l.length cap l) (hl:l.length≤60) (hf:f≤3600):
  Calls Try.prog 17 #[.int .i64 (f:Int),.slice ao l.length cap] W fun e w'=>∃v,e=.returned v∧SOwn 68 W.heap.size w' v (pkts f l)∧Below W.heap.size W w':=by
 obtain ⟨i0,hi0,hz⟩:∃i,Try.prog.info? 68=some i∧(i.zero,i.size,i.bytes)=(some (.agg #[.int .u64 0,.int .u64 0,.int .u64 0,.int .u64 0,.int .u64 0,.int .u64 0,.bool false]),7,56):=by
  have:=pk_info21
  cases hq:Try.prog.info? 68 with
  | none=>rw [hq] at this;cases this
  | some i=>rw [hq] at this;exact ⟨i,rfl,by simpa using this⟩
 have hz0:i0.zero=some (.agg #[.int .u64 0,.int .u64 0,.int .u64 0,.int .u64 0,.int .u64 0,.int .u64 0,.bool false]):=congrArg (·.1) hz
 have hz1:i0.size=7:=congrArg (·.2.1) hz
 have hz2:i0.bytes=56:=congrArg (·.2.2) hz
 have HI:=Lib.hid hi0
 have HZ0:=Lib.hid hz0
 have HZ1:=Lib.hid hz1
 have HZ2:=Lib.hid hz2
 have HN:=Lib.hid h
 clear hi0 hz hz0 hz1 hz2 h
 go_enter Try.func17,Try.ntmps17
 go_wp2_with fail
 go_loopw [6,5] (fun i ov wr=>∃k:Nat,i=.int .i64 (k:Int)∧k≤l.length∧SOwn 68 W.heap.size wr ov (pkts f (l.take k))∧Below W.heap.size W wr) (fun i _ _=>l.length - (intOf i).toNat)
 case atStart=>exact ⟨0,rfl,Nat.zero_le _,SOwn.nil _ _ _,Below.refl _ _⟩
 case round=>
  obtain ⟨k,rfl,hk,ho,hbe⟩:=hrel
  by_cases hlt:k < l.length
  ·obtain ⟨b,off,rfl,hb,hcs⟩:=HN.out.nus (by omega)
   have hc:=(hbe.cell (p:=⟨b,off + k,none⟩) hb).trans (hcs k hlt)
   obtain ⟨x,hx⟩:∃x,x=l.getD k 0:=⟨_,rfl⟩
   rw [← hx] at hc
   have HLn:Hid ((pkts f (l.take k)).length=k):=Lib.hid (by rw [pkts_len,List.length_take];omega)
   have HT:Hid (pkts f (l.take (k + 1))=pkts f (l.take k) ++ [newP (f + k) x]):=Lib.hid (by rw [take_nat l k hlt,← hx,pkts_snoc,List.length_take,Nat.min_eq_left (by omega)])
   have HO:=Lib.hid ho
   have HBe:=Lib.hid hbe
   have HOne:=Lib.hid (Itm.one (newP (f + k) x))
   have j0:(0:Int)≤(k:Int):=by omega
   have j1:(k:Int) < (l.length:Int):=by omega
   have hs1:(f:Int) + (k:Int)=((f + k:Nat):Int):=by omega
   have hs2:IntKind.i64.wrap ((f + k:Nat):Int)=((f + k:Nat):Int):=by rw [IntKind.wrap_i64];omega
   have hs3:IntKind.u64.wrap ((f + k:Nat):Int)=((f + k:Nat):Int):=by rw [IntKind.wrap_u64];omega
   clear ho hbe hx hcs hb
   have HW:Hid (∀v,newP v x=⟨v,x,0,0,0,0,false⟩):=Lib.hid (fun _=>rfl)
   generalize f + k=fk at *
   generalize pkts f (l.take k)=pre at *
   obtain ⟨ap,cp,hv,hp1,hp2,_,_⟩:=HO.out.form
   subst hv
   have HO2:=Lib.hid (HO.out.keep (al_be wr (.cells #[.int .u64 (fk:Int),.int .u64 (x:Int),.int .u64 0,.int .u64 0,.int .u64 0,.int .u64 0,.bool false] 68)))
   have HNw:=Lib.hid (World.news_of_block (Blk.new wr 68 #[.int .u64 (fk:Int),.int .u64 (x:Int),.int .u64 0,.int .u64 0,.int .u64 0,.int .u64 0,.bool false]))
   have hsz:W.heap.size≤(wr.alloc (.cells #[.int .u64 (fk:Int),.int .u64 (x:Int),.int .u64 0,.int .u64 0,.int .u64 0,.int .u64 0,.bool false] 68)).heap.size:=by have:=HBe.out.size;simp;omega
   have hpl:pre.length≤5000:=by rw [HLn.out];omega
   go_wp2_with (at_builtin;refine wpList_append_own_at _ rfl (.tmp 13) (.tmp 23) 42 rfl W.heap.size 68 _ (.agg #[.int .u64 0,.int .u64 0,.int .u64 0,.int .u64 0,.int .u64 0,.int .u64 0,.bool false]) 7 56 Try.underlying42 HI.out HZ0.out HZ1.out HZ2.out rfl (by decide) (.slice ap pre.length cp) pre.length (pre.flatMap Itm.cs) rfl HO2.out ⟨wr.heap.size,0,none⟩ 1 1 (Itm.cs (newP fk x)) rfl rfl HNw.out HOne.out (by unfold maxLen;omega) (by omega) hsz ?_;intro v' w5 hown hgr hnil hat;have HW5:=Lib.hid hown;have HG:=Lib.hid hgr;clear hown hgr hnil hat)
   have HS:Hid (SOwn 68 W.heap.size w5 v' (pre ++ [newP fk x])):=Lib.hid (SOwn.snoc HW5.out)
   have HB5:=Lib.hid (bel_app HBe.out HBe.out.size HO.out (.cells #[.int .u64 (fk:Int),.int .u64 (x:Int),.int .u64 0,.int .u64 0,.int .u64 0,.int .u64 0,.bool false] 68) HG.out)
   clear HW5 HG HO HO2 HNw HBe
   go_wp2_with fail
   go_roundw
   case rel=>exact ⟨k + 1,by go_num,by omega,by rw [HT.out];exact HS.out,HB5.out⟩
   case measure=>simp [intOf];omega
  ·obtain rfl:k=l.length:=by omega
   rw [List.take_length] at ho
   have HO:=Lib.hid ho
   have HBe:=Lib.hid hbe
   clear ho hbe
   go_wp2_with fail
   go_ret
   exact ⟨_,rfl,HO.out,HBe.out⟩
end Go.Proofs.Ytgpmnhhcjccofaa

set_option linter.unusedVariables false
namespace Go.Proofs.Ytgpmnhhcjccofaa
open Go.RowKit
namespace LS
def act (s:LS) (f:Nat) (q:Act21):LS:=if q.tick then s.tick (s.t + q.after) q.waste q.choices else s.sends (pkts f q.sizes)
def more (f:Nat) (q:Act21):Nat:=if q.tick then f else f + q.sizes.length
theorem act_tick {s:LS} {f:Nat} {q:Act21} (h:q.tick=true):s.act f q=s.tick (s.t + q.after) q.waste q.choices:=by unfold act;rw [if_pos h]
theorem act_send {s:LS} {f:Nat} {q:Act21} (h:q.tick=false):s.act f q=s.sends (pkts f q.sizes):=by unfold act;rw [if_neg (by simp [h])]
theorem more_tick {f:Nat} {q:Act21} (h:q.tick=true):more f q=f:=by unfold more;rw [if_pos h]
theorem more_send {f:Nat} {q:Act21} (h:q.tick=false):more f q=f + q.sizes.length:=by unfold more;rw [if_neg (by simp [h])]
theorem mul_size {x:Nat} (h:x≤1073741824):Pl.mulS x 1000000=1000000 * x:=by unfold Pl.mulS;rw [Nat.mul_comm];omega
theorem take_n {k:KB} {x:Nat} (h:k.takeB x=true) (hx:x≤1073741824):(k.takeS x).n + 1000000 * x=k.n∧(k.takeS x).w=k.w∧(k.takeS x).r=k.r:=by
 unfold KB.takeB KB.spendB at h
 unfold KB.takeS KB.spendS
 rw [mul_size hx] at *
 have h':1000000 * x≤k.n:=of_decide_eq_true h
 rw [if_pos h']
 exact ⟨by show k.n - 1000000 * x + 1000000 * x=k.n;omega,rfl,rfl⟩
theorem take_r (k:KB) (x:Nat):(k.takeS x).r=k.r∧(k.takeS x).w=k.w:=by
 unfold KB.takeS
 generalize Pl.mulS x 1000000=m
 unfold KB.spendS;split <;> exact ⟨rfl,rfl⟩
structure Sm (r:Nat) (s:LS) (f k:Nat):Prop where
 ok:s.ok f
 few:f≤60 * k
 now:s.t=s.k.t
 t:s.t≤1073741824 * k
 rate:s.k.r=r
 came:s.came≤1073741824 * f
 sz:∀x∈s.q.l,x.size≤1073741824
 eq:1000000 * s.served + s.k.w + s.k.n=r * s.t
 lost:s.came=s.q.lost + totP s.q.l + s.served
theorem Sm.start (r d j b:Nat) (hr:r≤18446744073709551615) (hd:d≤18446744073709551615) (hj:j≤18446744073709551615) (hb:b≤18446744073709551615):Sm r (LS.start r d j b) 0 0:=
 ⟨LS.start_okL hr hd hj hb,Nat.le_refl _,rfl,Nat.le_refl _,rfl,Nat.le_refl _,(fun x h=>nomatch h),by show 1000000 * 0 + 0 + 0=r * 0;omega,rfl⟩
theorem put_lost (q:QK) (p:Pk) (h:QInv q) (hs:q.lost + p.size≤18446744073709551615):(q.putQ p).lost + totP (q.putQ p).l=q.lost + totP q.l + p.size∧(q.putQ p).room=q.room∧(∀x∈(q.putQ p).l,x∈q.l∨x=p):=by
 unfold QK.putQ
 split
 ·refine ⟨?_,rfl,fun x hx=>?_⟩
  ·show q.lost + totP (q.l ++ [p])=_;rw [totP_app,totP_cons,totP_nil];omega
  ·rcases List.mem_append.1 (show x∈q.l ++ [p] from hx) with c | c
   ·exact .inl c
   ·exact .inr (List.mem_singleton.1 c)
 ·refine ⟨?_,rfl,fun x hx=>.inl hx⟩
  show Pl.addS q.lost p.size + totP q.l=_
  unfold Pl.addS;omega
theorem Sm.sends {r:Nat} {k:Nat} (hk:k < 60):∀(l:List Pk) (s:LS) (f:Nat),(s.ok f∧s.t=s.k.t∧s.t≤1073741824 * k∧s.k.r=r∧s.came≤1073741824 * f∧(∀x∈s.q.l,x.size≤1073741824)∧1000000 * s.served + s.k.w + s.k.n=r * s.t∧s.came=s.q.lost + totP s.q.l + s.served)→
  f + l.length≤60 * (k + 1)→(∀x∈l,x.size≤1073741824)→Sm r (s.sends l) (f + l.length) (k + 1)∧(s.sends l).q.room=s.q.room:=by
 intro l
 induction l with
 | nil=>
   intro s f ⟨h1,h2,h3,h4,h5,h6,h7,h8⟩ hf _
   exact ⟨⟨h1,by simpa using hf,h2,by rw [Nat.mul_succ];show s.t≤_;omega,h4,h5,h6,h7,h8⟩,rfl⟩
 | cons p t ih=>
   intro s f ⟨h1,h2,h3,h4,h5,h6,h7,h8⟩ hf hp
   have hps:=hp p (by simp)
   rw [List.length_cons] at hf
   have hl:=put_lost s.q p h1.q (by omega)
   have:=ih (s.send1 p) (f + 1) ⟨h1.send (by omega),by rw [send1_t,send1_k];exact h2,by rw [send1_t];exact h3,by rw [send1_k];exact h4,by rw [send1_came];omega,by
    rw [send1_q]
    intro x hx
    rcases hl.2.2 x hx with c | c
    ·exact h6 x c
    ·rw [c];exact hps,by rw [send1_served,send1_k,send1_t];exact h7,by rw [send1_came,send1_q,send1_served];omega⟩ (by omega) (fun x hx=>hp x (by simp [hx]))
   rw [List.length_cons,show f + (t.length + 1)=f + 1 + t.length by omega]
   exact ⟨this.1,this.2.trans (by rw [send1_q];exact hl.2.1)⟩
structure Sv (r:Nat) (s:LS) (f:Nat):Prop where
 ok:s.ok f
 rate:s.k.r=r
 sz:∀x∈s.q.l,x.size≤1073741824
 eq:1000000 * s.served + s.k.w + s.k.n=r * s.t
 lost:s.came=s.q.lost + totP s.q.l + s.served
set_option maxRecDepth 100000 in
theorem Sv.serve1 {r:Nat} {s:LS} {f:Nat} (h:Sv r s f) (hm:s.may=true) (c:Nat):Sv r (s.serve1 c) f:=by
 have e:=some_cons (may_some hm)
 have hx:s.q.headQ.size≤1073741824:=h.sz _ (by rw [e];simp)
 obtain ⟨t1,t2,t3⟩:=take_n (may_take hm) hx
 have e2:totP s.q.l=s.q.headQ.size + totP s.q.shiftQ.l:=(congrArg totP e).trans (totP_cons _ _)
 have h1:=h.eq
 have h2:=h.lost
 refine ⟨h.ok.serve1 hm c,by rw [serve1_k,t3];exact h.rate,?_,?_,?_⟩
 ·rw [serve1_q]
  intro x hx
  exact h.sz x (by rw [e];exact List.mem_cons_of_mem _ hx)
 ·rw [serve1_served,serve1_k,serve1_t,t2]
  generalize (s.k.takeS s.q.headQ.size).n=a at *
  generalize r * s.t=y at *
  generalize s.q.headQ.size=z at *
  clear t2 t3 e e2 h2 h hm
  omega
 ·rw [serve1_came,serve1_q,serve1_served]
  show s.came=s.q.lost + totP s.q.shiftQ.l + (s.served + s.q.headQ.size)
  clear t1 t2 t3 e h1 h hm hx
  omega
theorem Sv.serve {r:Nat} {s:LS} {f:Nat} (h:Sv r s f) (cs:List Nat):Sv r (s.serve cs) f:=serve_ind (P:=fun x=>Sv r x f) (fun x c h hm=>h.serve1 hm c) _ s cs rfl h
theorem serve_cw (s:LS) (cs:List Nat):(s.serve cs).k.w=s.k.w∧(s.serve cs).came=s.came∧(s.serve cs).q.room=s.q.room∧(s.serve cs).deliv=s.deliv:=
 serve_ind (P:=fun x=>x.k.w=s.k.w∧x.came=s.came∧x.q.room=s.q.room∧x.deliv=s.deliv) (fun x c h hm=>⟨by rw [serve1_k,(take_r _ _).2];exact h.1,(serve1_came x c).trans h.2.1,by rw [serve1_q];exact h.2.2.1,(serve1_deliv x c).trans h.2.2.2⟩) _ s cs rfl ⟨rfl,rfl,rfl,rfl⟩
theorem to_n {k:KB} {now r:Nat} (hr:k.r=r) (ht:k.t≤now) (h:k.n + r * (now - k.t)≤18446744073709551615):(k.toS now).n=k.n + r * (now - k.t)∧(k.toS now).w=k.w∧(k.toS now).r=k.r:=by
 unfold KB.toS
 split
 ·next c=>
  have:now - k.t=0:=by omega
  rw [this];exact ⟨by omega,rfl,rfl⟩
 ·refine ⟨?_,rfl,rfl⟩
  show Pl.addS k.n (Pl.mulS k.r (now - k.t))=_
  unfold Pl.addS Pl.mulS
  rw [hr]
  generalize r * (now - k.t)=x at *
  omega
theorem waste_w (s:LS) (x:Nat) (h:s.k.w + s.k.n≤18446744073709551615):(s.wasteL x).k.w + (s.wasteL x).k.n=s.k.w + s.k.n∧s.k.w≤(s.wasteL x).k.w∧(s.k.w < (s.wasteL x).k.w→s.q.l=[])∧(s.wasteL x).k.r=s.k.r∧(s.wasteL x).served=s.served∧(s.wasteL x).q=s.q∧(s.wasteL x).came=s.came∧(s.wasteL x).deliv=s.deliv∧(s.wasteL x).j=s.j:=by
 unfold wasteL
 split
 ·exact ⟨rfl,Nat.le_refl _,fun h=>absurd h (Nat.lt_irrefl _),rfl,rfl,rfl,rfl,rfl,rfl⟩
 ·next c=>
  refine ⟨?_,?_,fun _=>some_no (by simpa using c),by rw [wasteK_k];rfl,wasteK_served s x,wasteK_q s x,wasteK_came s x,wasteK_deliv s x,wasteK_j s x⟩
  ·rw [wasteK_k]
   show Pl.addS s.k.w (min x s.k.n) + (s.k.n - min x s.k.n)=_
   unfold Pl.addS;omega
  ·rw [wasteK_k]
   show s.k.w≤Pl.addS s.k.w (min x s.k.n)
   unfold Pl.addS;omega
theorem big_le:1048576 * (1073741824 * 61)≤18446744073709551615:=by decide +kernel
theorem rt_le {r t k:Nat} (hr:r≤1048576) (ht:t≤1073741824 * k) (hk:k≤61):r * t≤1048576 * (1073741824 * 61):=
 Nat.mul_le_mul hr (Nat.le_trans ht (Nat.mul_le_mul_left _ hk))
set_option maxRecDepth 100000 in
theorem Sm.ahead {r:Nat} {s:LS} {f k:Nat} (h:Sm r s f k) (hr:r≤1048576) {now:Nat} (hn:s.t≤now) (hN:r * now≤18446744073709551615) (x:Nat) (cs:List Nat) (hm:now≤18446744073709551615):
  Sv r (s.ahead now x cs) f∧s.k.w≤(s.ahead now x cs).k.w∧(s.k.w < (s.ahead now x cs).k.w→(s.ahead now x cs).q.l=[])∧(s.ahead now x cs).came=s.came∧(s.ahead now x cs).q.room=s.q.room:=by
 have h1:=h.eq
 have hnow:=h.now
 have hsplit:r * now=r * s.t + r * (now - s.t):=by rw [← Nat.mul_add,Nat.add_sub_cancel' hn]
 obtain ⟨t1,t2,t3⟩:=to_n (k:=s.k) (now:=now) h.rate (by omega) (by rw [← hnow];omega)
 rw [← hnow] at t1
 have v0:Sv r (s.toT now) f:=⟨h.ok.toT hm,by rw [toT_k,t3];exact h.rate,by rw [toT_q];exact h.sz,by rw [toT_served,toT_k,toT_t,t1,t2];omega,by rw [toT_came,toT_q,toT_served];exact h.lost⟩
 have v1:=v0.serve cs
 have w1:=serve_cw (s.toT now) cs
 have e1:=v1.eq
 have et:((s.toT now).serve cs).t=now:=(serve_kt _ _).2.trans (toT_t s now)
 rw [et] at e1
 obtain ⟨a1,a2,a3,a4,a5,a6,a7,a8,a9⟩:=waste_w ((s.toT now).serve cs) x (by omega)
 have et2:(((s.toT now).serve cs).wasteL x).t=now:=(waste_t _ _).1.trans et
 have ew:((s.toT now).serve cs).k.w=s.k.w:=by rw [w1.1,toT_k,t2]
 unfold LS.ahead
 refine ⟨⟨v1.ok.waste x,by rw [a4];exact v1.rate,by rw [a6];exact v1.sz,by rw [a5,et2];omega,by rw [a7,a6,a5];exact v1.lost⟩,by rw [← ew];exact a2,?_,by rw [a7,w1.2.1,toT_came],by rw [a6,w1.2.2.1,toT_q]⟩
 rw [a6,← ew]
 exact a3
set_option maxRecDepth 100000 in
theorem Sm.tick {r:Nat} {s:LS} {f k:Nat} (h:Sm r s f k) (hr:r≤1048576) (hk:k < 60) {d:Nat} (hd:d≤1073741824) (x:Nat) (cs:List Nat):
  Sm r (s.tick (s.t + d) x cs) f (k + 1)∧s.k.w≤(s.tick (s.t + d) x cs).k.w∧(s.k.w < (s.tick (s.t + d) x cs).k.w→(s.tick (s.t + d) x cs).q.l=[])∧(s.tick (s.t + d) x cs).q.room=s.q.room:=by
 have ht:=h.t
 have htk:s.t + d≤1073741824 * (k + 1):=by rw [Nat.mul_succ];omega
 have hN:=rt_le hr htk (by omega)
 obtain ⟨v,w1,w2,w3,w4⟩:=h.ahead hr (Nat.le_add_right s.t d) (Nat.le_trans hN big_le) x cs (by clear hN;omega)
 have e:=v.eq
 have at':=ahead_t s (s.t + d) x cs
 unfold LS.tick
 refine ⟨⟨v.ok.deliver,by have:=h.few;omega,?_,by rw [deliver_t,at'];exact htk,by rw [deliver_k];exact v.rate,by rw [deliver_came,w3];exact h.came,by rw [deliver_q];exact v.sz,by rw [deliver_served,deliver_k,deliver_t];exact e,by rw [deliver_came,deliver_q,deliver_served];exact v.lost⟩,by rw [deliver_k];exact w1,by rw [deliver_k,deliver_q];exact w2,by rw [deliver_q];exact w4⟩
 have:=tick_now h.now (Nat.le_add_right s.t d) x cs
 exact this
theorem Sm.act {r:Nat} {s:LS} {f k:Nat} {q:Act21} (h:Sm r s f k) (hk:k < 60) (h1:small1 r q=true) (h2:fit1 q=true):
  Sm r (s.act f q) (more f q) (k + 1)∧s.k.w≤(s.act f q).k.w∧(s.k.w < (s.act f q).k.w→(s.act f q).q.l=[])∧(s.act f q).q.room=s.q.room:=by
 unfold small1 at h1
 unfold fit1 at h2
 simp only [Bool.and_eq_true,decide_eq_true_eq,List.all_eq_true] at h1 h2
 obtain ⟨ha,hr,hz⟩:=h1
 cases ht:q.tick with
 | true=>rw [act_tick ht,more_tick ht];exact h.tick hr hk ha q.waste q.choices
 | false=>
   rw [act_send ht,more_send ht]
   have hf:=h.few
   have:=Sm.sends hk (pkts f q.sizes) s f ⟨h.ok,h.now,h.t,h.rate,h.came,h.sz,h.eq,h.lost⟩ (by rw [pkts_len];omega) (pkts_size (fun x hx=>hz x hx))
   rw [pkts_len] at this
   have e:=sends_same (pkts f q.sizes) s
   exact ⟨this.1,by rw [e.2.1];exact Nat.le_refl _,fun hlt=>absurd hlt (by rw [e.2.1];exact Nat.lt_irrefl _),this.2⟩
end LS
end Go.Proofs.Ytgpmnhhcjccofaa

set_option linter.unusedVariables false
namespace Go.Proofs.Ytgpmnhhcjccofaa
open Go.RowKit
theorem OwnE.base {W w w':World} {b:Nat} {s:LS} (h:OwnE w b s w') (k:Below W.heap.size W w):OwnE W b s w':=by
 obtain ⟨p,h1,h2⟩:=h
 exact ⟨p,h1,h2.at_,fun x hx=>Nat.le_trans k.size (h2.lo x hx),bel_to k h2.bel k.size⟩
theorem away_in {W w:World} {ao:Option Addr} {n cap:Nat} {cs:List Nat} (h:InNus W ao n cap cs) (k:Below W.heap.size W w) (p:PL) (hp:∀x∈p.l,W.heap.size≤x):Away w p ao cs cap:=by
 refine ⟨h.nus.keep k,fun h1 a e hm=>?_,fun h1 a e=>?_,h.mx,by rw [h.len];exact h.le,h.big⟩
 ·have:=h.lt h1 a e
  have:=hp _ hm
  omega
 ·have:=h.lt h1 a e
  have:=k.size
  omega
theorem act_r {W:World} {ab o:Nat} {q:Act21} (h:Act21At W ab o q) (hb:ab < W.heap.size) {b:Nat} {s:LS}:∀w,Hid (OwnE W b s w)→w.cell? ⟨ab,o,none⟩=some (.bool q.tick)∧w.cell? ⟨ab,o + 1,none⟩=some (.slice q.p1 q.sizes.length q.c1)∧w.cell? ⟨ab,o + 2,none⟩=some (.int .u64 (q.after:Int))∧w.cell? ⟨ab,o + 3,none⟩=some (.int .u64 (q.waste:Int))∧w.cell? ⟨ab,o + 4,none⟩=some (.slice q.p2 q.choices.length q.c2):=fun w k=>by
 have A:=h.keep hb k.out.bel
 exact ⟨A.k0,A.k1,A.k2,A.k3,A.k4⟩
theorem oe_packets {W:World} {b:Nat} {s:LS} {q:Act21} (f:Nat) (hq:InNus W q.p1 q.sizes.length q.c1 q.sizes) (hl:q.sizes.length≤60) (hf:f≤3600):∀w,OwnE W b s w→
  Calls Try.prog 17 #[.int .i64 (f:Int),.slice q.p1 q.sizes.length q.c1] w fun e w'=>∃ao cap,e=.returned (.slice ao q.sizes.length cap)∧Hid (Its w' ao (pkts f q.sizes))∧Hid (0 < (pkts f q.sizes).length→∀a,ao=some a→w.heap.size≤a.block)∧Hid (Below w.heap.size w w'):=
 fun w h=>(packets_any f q.sizes q.p1 q.c1 w (hq.keep h.bel) hl hf).mono fun e w' k=>by
  obtain ⟨v,he,hv,hb⟩:=k
  obtain ⟨ao,cap,rfl,_,_,hi,hg⟩:=hv.form
  rw [pkts_len] at he
  refine ⟨ao,cap,he,Lib.hid hi,Lib.hid (fun hp a e=>?_),Lib.hid hb⟩
  obtain ⟨g,rfl,h2⟩:=hg hp
  cases e
  have:=hv.base (m:=w.heap.size) (Nat.le_refl _)
  rw [h2] at this
  exact this
def LT (T:TypeId):Prop:=T≠88∧T≠107∧T≠113∧T≠129∧T≠68∧T≠119∧T≠132∧T≠117
instance (T:TypeId):Decidable (LT T):=by unfold LT;infer_instance
def KL (w w':World):Prop:=∀k T cs,LT T→Blk w k T cs→Blk w' k T cs
theorem kl_of {w w':World} {p:PL} {s:LS} (hh:LkAt w p s) (k:Fr w w' p.l):KL w w':=fun g T cs hT hb=>hb.fr k (fun hx=>by
 obtain ⟨t1,t2,t3,t4,t5,t6,t7,t8⟩:=hT
 have a1:=hh.head
 have a2:=hh.k
 have a3:=hh.q.head
 obtain ⟨_,a4⟩:=hh.q.row.head
 obtain ⟨_,a5⟩:=hh.q.row.body
 have a6:=hh.j.head
 obtain ⟨_,a7⟩:=hh.j.row.head
 obtain ⟨_,a8⟩:=hh.j.row.body
 simp only [PL.l,List.mem_cons,List.not_mem_nil,or_false] at hx
 rcases hx with c | c | c | c | c | c | c | c
 ·exact hb.ty a1 t1 c
 ·exact hb.ty a2 t2 c
 ·exact hb.ty a3 t3 c
 ·exact hb.ty a4 t4 c
 ·exact hb.ty a5 t5 c
 ·exact hb.ty a6 t6 c
 ·exact hb.ty a7 t7 c
 ·exact hb.ty a8 t8 c)
theorem fit_of {l:List Act21} (h:fits21 l=true):l.length≤60∧∀k,k < l.length→fit1 (l.getD k default)=true:=by
 unfold fits21 at h
 simp only [Bool.and_eq_true,decide_eq_true_eq,List.all_eq_true] at h
 exact ⟨h.1,fun k hk=>h.2 _ (getD_mem hk)⟩
theorem right_of {r d j b:Nat} (h:rightP r d j b=true):1≤r∧r≤1099511627776∧d≤4398046511104∧j≤4398046511104∧1≤b∧b≤72057594037927936:=by
 unfold rightP at h
 simp only [Bool.and_eq_true,decide_eq_true_eq] at h
 exact h
theorem small_of {r:Nat} {l:List Act21} (h:small21 r l=true):∀k,k < l.length→small1 r (l.getD k default)=true:=by
 unfold small21 at h
 rw [List.all_eq_true] at h
 exact fun k hk=>h _ (getD_mem hk)
theorem fit_sizes {q:Act21} (h:fit1 q=true):q.sizes.length≤60:=by
 unfold fit1 at h
 simp only [Bool.and_eq_true,decide_eq_true_eq] at h
 exact h.1
theorem small_after {r:Nat} {q:Act21} (h:small1 r q=true):q.after≤1073741824∧r≤1048576∧∀x∈q.sizes,x≤1073741824:=by
 unfold small1 at h
 simp only [Bool.and_eq_true,decide_eq_true_eq,List.all_eq_true] at h
 exact ⟨h.1,h.2.1,h.2.2⟩
end Go.Proofs.Ytgpmnhhcjccofaa
