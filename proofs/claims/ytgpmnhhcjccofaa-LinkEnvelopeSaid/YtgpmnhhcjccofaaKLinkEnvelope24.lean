/- 7 texts put together: what each one says stands ahead of it. -/
import Derived.Test.YtgpmnhhcjccofaaKLinkEnvelope22
import Derived.Deep.SlicePairs
import Derived.Deep.Fields
import Derived.ProofKit
import Derived.OpenShut
import Derived.Deep.AppendLies
import Derived.Maps.AppendAt
import Derived.OwnWalk
import Derived.Test.YtgpmnhhcjccofaaKLinkEnvelope23
import Derived.Test.YtgpmnhhcjccofaaKLinkEnvelope18
import Derived.Deep.LoopGhost
set_option linter.unusedVariables false
namespace Go.Proofs.Ytgpmnhhcjccofaa
open Go.ChangeShapes Go.WideShapes Go.ChangeAt Go.RowKit
structure InNus (w:World) (v:Option Addr) (n cap:Nat) (l:List Nat):Prop where
 len:l.length=n
 le:n≤cap
 big:cap≤9223372036854775807
 nus:Nus w v l
 mx:∀x∈l,x≤18446744073709551615
theorem InNus.lt {w:World} {v:Option Addr} {len cap:Nat} {l:List Nat} (h:InNus w v len cap l) (hp:0 < l.length):∀a,v=some a→a.block < w.heap.size:=by
 obtain ⟨b,off,e,hb,_⟩:=h.nus hp
 intro a ha
 rw [e] at ha
 injection ha with ha
 subst ha
 exact hb
theorem InNus.keep {w w':World} {v:Option Addr} {len cap:Nat} {l:List Nat} (h:InNus w v len cap l) (k:Below w.heap.size w w'):InNus w' v len cap l:=⟨h.len,h.le,h.big,h.nus.keep k,h.mx⟩
theorem in_nus {H:Type} {enc:TypeId × Value→H} {w:World} {fuel:Nat} {spare:Nat→Bool} {held:Bool} {v:Option Addr} {len cap:Nat} {x:DataW H × List MemPlace}
  (h:DataW.trod enc Try.prog w 0 spare held fuel 36 [.slice v len cap]=some x):∃l,InNus w v len cap l:=by
 rcases Go.Deep.open_slice Try.underlying36 h with ⟨hcs,_⟩ | ⟨a,len',cap',m,n,D,Pl,hcs,_,hl,hm,hmm,_,hi⟩
 ·simp only [List.cons.injEq,Value.slice.injEq,and_true] at hcs
  obtain ⟨rfl,rfl,rfl⟩:=hcs
  exact ⟨[],rfl,by omega,by omega,Nus.nil _ _,fun r hr=>by cases hr⟩
 ·simp only [List.cons.injEq,Value.slice.injEq,and_true] at hcs
  obtain ⟨rfl,rfl,rfl⟩:=hcs
  have hlm:len≤m:=by rw [hmm];split <;> omega
  have ce:Try.prog.cellsOf 22=1:=by kernel_rfl
  unfold maxLen at hm
  have each:∀i,i < len→∃q:Nat,w.cell? (a.add i)=some (.int .u64 (q:Int))∧q≤18446744073709551615:=by
   intro i hlt
   obtain ⟨cs',h1,h2⟩:=hi i (by omega)
   rw [ce,Nat.mul_one] at h1
   obtain ⟨_,hlen,hcell⟩:=World.cells?_some h1
   match cs',hlen with
   | [v0],_=>
     obtain ⟨z0,hz0,_,hw0⟩:=DataW.trod_int Try.underlying22 h2
     simp only [List.cons.injEq,and_true] at hz0
     subst hz0
     obtain ⟨b0,b0'⟩:=bounds_u64 hw0
     have e0:=hcell 0 (by omega)
     rw [Go.Deep.add_add] at e0
     exact ⟨z0.toNat,by rw [Int.toNat_of_nonneg b0];simpa using e0,by omega⟩
  obtain ⟨q,hq⟩:=Go.Deep.choose_lt each
  obtain ⟨b,off,spot⟩:=a
  refine ⟨(List.range len).map q,by simp,hl,by omega,fun hpos=>?_,fun r hr=>?_⟩
  ·have hpos':0 < len:=by simpa using hpos
   have h0:=(hq 0 hpos').1
   have hs:spot=none:=by simpa [Addr.add] using World.cell?_spot h0
   subst hs
   refine ⟨b,off,rfl,by have:=World.block_lt_of_cell? _ _ h0;simpa [Addr.add] using this,fun i hi=>?_⟩
   have hi':i < len:=by simpa using hi
   have:=(hq i hi').1
   rw [Go.WideShapes.add_plain] at this
   rw [this]
   simp [List.getD_eq_getElem?_getD,hi']
  ·obtain ⟨i,hi,rfl⟩:=List.mem_map.1 hr
   exact (hq i (by simpa using hi)).2
structure Act21 where
 tick:Bool
 p1:Option Addr
 c1:Nat
 sizes:List Nat
 after:Nat
 waste:Nat
 p2:Option Addr
 c2:Nat
 choices:List Nat
instance:Inhabited Act21:=⟨⟨false,none,0,[],0,0,none,0,[]⟩⟩
structure Act21At (w:World) (b o:Nat) (q:Act21):Prop where
 k0:w.cell? ⟨b,o,none⟩=some (.bool q.tick)
 k1:w.cell? ⟨b,o + 1,none⟩=some (.slice q.p1 q.sizes.length q.c1)
 k2:w.cell? ⟨b,o + 2,none⟩=some (.int .u64 (q.after:Int))
 k3:w.cell? ⟨b,o + 3,none⟩=some (.int .u64 (q.waste:Int))
 k4:w.cell? ⟨b,o + 4,none⟩=some (.slice q.p2 q.choices.length q.c2)
 s1:InNus w q.p1 q.sizes.length q.c1 q.sizes
 b2:q.after≤18446744073709551615
 b3:q.waste≤18446744073709551615
 s4:InNus w q.p2 q.choices.length q.c2 q.choices
def InAct21 (w:World) (v:Option Addr) (l:List Act21) (b off:Nat):Prop:=
 l.length≤9223372036854775807∧(0 < l.length→v=some ⟨b,off,none⟩∧b < w.heap.size)∧∀i,i < l.length→Act21At w b (off + i * 5) (l.getD i default)
theorem Act21At.keep {w w':World} {b o:Nat} {q:Act21} (h:Act21At w b o q) (hb:b < w.heap.size) (k:Below w.heap.size w w'):Act21At w' b o q:=
 ⟨(k.cell (p:=⟨b,_,none⟩) hb).trans h.k0,(k.cell (p:=⟨b,_,none⟩) hb).trans h.k1,(k.cell (p:=⟨b,_,none⟩) hb).trans h.k2,(k.cell (p:=⟨b,_,none⟩) hb).trans h.k3,(k.cell (p:=⟨b,_,none⟩) hb).trans h.k4,h.s1.keep k,h.b2,h.b3,h.s4.keep k⟩
theorem InAct21.keep {w w':World} {v:Option Addr} {l:List Act21} {b off:Nat} (h:InAct21 w v l b off) (k:Below w.heap.size w w'):InAct21 w' v l b off:=
 ⟨h.1,fun hp=>⟨(h.2.1 hp).1,Nat.lt_of_lt_of_le (h.2.1 hp).2 k.size⟩,fun i hi=>(h.2.2 i hi).keep (h.2.1 (by omega)).2 k⟩
theorem any_nus {H:Type} {enc:TypeId × Value→H} {w:World} {fuel:Nat} {spare:Nat→Bool} {held:Bool} {v:Value} {x:DataW H × List MemPlace}
  (h:DataW.trod enc Try.prog w 0 spare held fuel 36 [v]=some x):∃p n c l,v=.slice p n c∧InNus w p n c l:=by
 rcases Go.Deep.open_slice Try.underlying36 h with ⟨hcs,_⟩ | ⟨a',len',cap',m',n',D',Pl',hcs,_⟩
 ·simp only [List.cons.injEq,and_true] at hcs
  subst hcs
  obtain ⟨l,hl⟩:=in_nus h
  exact ⟨_,_,_,l,rfl,hl⟩
 ·simp only [List.cons.injEq,and_true] at hcs
  subst hcs
  obtain ⟨l,hl⟩:=in_nus h
  exact ⟨_,_,_,l,rfl,hl⟩
set_option maxRecDepth 100000 in
theorem in_act21 {H:Type} {enc:TypeId × Value→H} {w:World} {fuel:Nat} {spare:Nat→Bool} {held:Bool} {v:Option Addr} {len cap:Nat} {x:DataW H × List MemPlace}
  (h:DataW.trod enc Try.prog w 0 spare held fuel 25 [.slice v len cap]=some x):∃l b off,l.length=len∧InAct21 w v l b off:=by
 rcases Go.Deep.open_slice Try.underlying25 h with ⟨hcs,_⟩ | ⟨a,len',cap',m,n,D,Pl,hcs,_,hl,hm,hmm,_,hi⟩
 ·simp only [List.cons.injEq,Value.slice.injEq,and_true] at hcs
  obtain ⟨rfl,rfl,rfl⟩:=hcs
  exact ⟨[],0,0,rfl,by simp,fun h=>absurd h (by simp),fun i hi=>absurd hi (by simp)⟩
 ·simp only [List.cons.injEq,Value.slice.injEq,and_true] at hcs
  obtain ⟨rfl,rfl,rfl⟩:=hcs
  have hlm:len≤m:=by rw [hmm];split <;> omega
  have ce:Try.prog.cellsOf 38=5:=by kernel_rfl
  have c0:Try.prog.cellsOf 4=1:=by kernel_rfl
  have c1:Try.prog.cellsOf 22=1:=by kernel_rfl
  have c2:Try.prog.cellsOf 36=1:=by kernel_rfl
  unfold maxLen at hm
  obtain ⟨b,off,spot⟩:=a
  have hs0:0 < len→spot=none:=by
   intro hpos
   obtain ⟨cs',h1,_⟩:=hi 0 (by omega)
   rw [ce] at h1
   obtain ⟨_,hlen,hcell⟩:=World.cells?_some h1
   match cs',hlen with
   | [v0,v1,v2,v3,v4],_=>
     have e0:=hcell 0 (by omega)
     rw [Go.Deep.add_add] at e0
     simpa [Addr.add] using World.cell?_spot e0
  have each:∀i,i < len→∃q:Act21,spot=none∧b < w.heap.size∧Act21At w b (off + i * 5) q:=by
   intro i hlt
   obtain ⟨cs',h1,h2⟩:=hi i (by omega)
   rw [ce] at h1
   obtain ⟨_,hlen,hcell⟩:=World.cells?_some h1
   obtain ⟨xs,k,_,_,_,hxl,hf⟩:=DataW.trod_struct Try.underlying38 h2
   match cs',hlen with
   | [v0,v1,v2,v3,v4],_=>
     have g0:=hf 0 _ rfl
     have g1:=hf 1 _ rfl
     have g2:=hf 2 _ rfl
     have g3:=hf 3 _ rfl
     have g4:=hf 4 _ rfl
     have hx0:xs[0]? =some (xs[0]'(by rw [hxl];decide)):=List.getElem?_eq_getElem _
     have hx1:xs[1]? =some (xs[1]'(by rw [hxl];decide)):=List.getElem?_eq_getElem _
     have hx2:xs[2]? =some (xs[2]'(by rw [hxl];decide)):=List.getElem?_eq_getElem _
     have hx3:xs[3]? =some (xs[3]'(by rw [hxl];decide)):=List.getElem?_eq_getElem _
     have hx4:xs[4]? =some (xs[4]'(by rw [hxl];decide)):=List.getElem?_eq_getElem _
     rw [hx0] at g0
     rw [hx1] at g1
     rw [hx2] at g2
     rw [hx3] at g3
     rw [hx4] at g4
     simp [c0,c1,c2] at g0 g1 g2 g3 g4
     obtain ⟨z0,hz0,_⟩:=DataW.trod_bool Try.underlying4 g0
     obtain ⟨p1,n1,d1,l1,rfl,hl1⟩:=any_nus g1
     obtain ⟨z2,hz2,_,hw2⟩:=DataW.trod_int Try.underlying22 g2
     obtain ⟨z3,hz3,_,hw3⟩:=DataW.trod_int Try.underlying22 g3
     obtain ⟨p4,n4,d4,l4,rfl,hl4⟩:=any_nus g4
     simp only [List.cons.injEq,and_true] at hz0 hz2 hz3
     subst hz0 hz2 hz3
     have n1':=hl1.len
     have n4':=hl4.len
     subst n1' n4'
     have e0:=hcell 0 (by omega)
     have e1:=hcell 1 (by omega)
     have e2:=hcell 2 (by omega)
     have e3:=hcell 3 (by omega)
     have e4:=hcell 4 (by omega)
     rw [Go.Deep.add_add] at e0 e1 e2 e3 e4
     have hs:=hs0 (by omega)
     subst hs
     rw [Go.WideShapes.add_plain] at e0 e1 e2 e3 e4
     obtain ⟨b2,b2'⟩:=bounds_u64 hw2
     obtain ⟨b3,b3'⟩:=bounds_u64 hw3
     refine ⟨⟨z0,p1,d1,l1,z2.toNat,z3.toNat,p4,d4,l4⟩,rfl,World.block_lt_of_cell? _ _ e0,⟨?_,?_,?_,?_,?_,hl1,by dsimp;omega,by dsimp;omega,hl4⟩⟩
     ·dsimp;simpa using e0
     ·dsimp;simpa [Nat.add_assoc] using e1
     ·dsimp;rw [Int.toNat_of_nonneg b2];simpa [Nat.add_assoc] using e2
     ·dsimp;rw [Int.toNat_of_nonneg b3];simpa [Nat.add_assoc] using e3
     ·dsimp;simpa [Nat.add_assoc] using e4
  obtain ⟨q,hq⟩:=Go.Deep.choose_lt each
  refine ⟨(List.range len).map q,b,off,by simp,by simp;omega,fun hpos=>?_,fun i hlt=>?_⟩
  ·have hpos':0 < len:=by simpa using hpos
   obtain ⟨rfl,hb,_⟩:=hq 0 hpos'
   exact ⟨rfl,hb⟩
  ·have hlt':i < len:=by simpa using hlt
   obtain ⟨_,_,h3⟩:=hq i hlt'
   have e:((List.range len).map q).getD i default=q i:=by simp [List.getD_eq_getElem?_getD,hlt']
   rw [e]
   exact h3
set_option maxRecDepth 100000 in
theorem in_path {H:Type} {enc:TypeId × Value→H} {w:World} {base b0:Nat} {r:Reach} {spare:Nat→Bool} {held:Bool} {v:Value} {d:DataW H} {p:List MemPlace}
  (hv:Value.okWide Try.prog w r b0 24 v) (h:DataW.Trod enc Try.prog w base spare held 24 v d p):∃x0 x1 x2 x3:Nat,(x0≤18446744073709551615∧x1≤18446744073709551615∧x2≤18446744073709551615∧x3≤18446744073709551615)∧v=.agg #[.int .u64 (x0:Int),.int .u64 (x1:Int),.int .u64 (x2:Int),.int .u64 (x3:Int)]:=by
 have ce:Try.prog.cellsOf 24=4:=by kernel_rfl
 have c0:Try.prog.cellsOf 22=1:=by kernel_rfl
 obtain ⟨cs,rfl,hsz⟩:=okWide_struct Try.underlying24 hv
 rw [ce] at hsz
 obtain ⟨l⟩:=cs
 obtain ⟨fuel,ht⟩:=h
 obtain ⟨xs,n,_,_,_,hlen,hg⟩:=DataW.trod_struct Try.underlying24 ht
 match l,hsz with
 | [v0,v1,v2,v3],_=>
   have g0:=hg 0 _ rfl
   have g1:=hg 1 _ rfl
   have g2:=hg 2 _ rfl
   have g3:=hg 3 _ rfl
   have hx0:xs[0]? =some (xs[0]'(by rw [hlen];decide)):=List.getElem?_eq_getElem _
   have hx1:xs[1]? =some (xs[1]'(by rw [hlen];decide)):=List.getElem?_eq_getElem _
   have hx2:xs[2]? =some (xs[2]'(by rw [hlen];decide)):=List.getElem?_eq_getElem _
   have hx3:xs[3]? =some (xs[3]'(by rw [hlen];decide)):=List.getElem?_eq_getElem _
   rw [hx0] at g0
   rw [hx1] at g1
   rw [hx2] at g2
   rw [hx3] at g3
   simp [c0,Value.cells] at g0 g1 g2 g3
   obtain ⟨z0,hz0,_,hw0⟩:=DataW.trod_int Try.underlying22 g0
   obtain ⟨z1,hz1,_,hw1⟩:=DataW.trod_int Try.underlying22 g1
   obtain ⟨z2,hz2,_,hw2⟩:=DataW.trod_int Try.underlying22 g2
   obtain ⟨z3,hz3,_,hw3⟩:=DataW.trod_int Try.underlying22 g3
   simp only [List.cons.injEq,and_true] at hz0 hz1 hz2 hz3
   subst hz0 hz1 hz2 hz3
   obtain ⟨a0,b0⟩:=bounds_u64 hw0
   obtain ⟨a1,b1⟩:=bounds_u64 hw1
   obtain ⟨a2,b2⟩:=bounds_u64 hw2
   obtain ⟨a3,b3⟩:=bounds_u64 hw3
   obtain ⟨z0,rfl⟩:=Int.eq_ofNat_of_zero_le a0
   obtain ⟨z1,rfl⟩:=Int.eq_ofNat_of_zero_le a1
   obtain ⟨z2,rfl⟩:=Int.eq_ofNat_of_zero_le a2
   obtain ⟨z3,rfl⟩:=Int.eq_ofNat_of_zero_le a3
   exact ⟨z0,z1,z2,z3,⟨by omega,by omega,by omega,by omega⟩,rfl⟩
end Go.Proofs.Ytgpmnhhcjccofaa

set_option linter.unusedVariables false
namespace Go.Proofs.Ytgpmnhhcjccofaa
open Go.RowKit
def fit1 (q:Act21):Bool:=decide (q.sizes.length≤60) && decide (q.choices.length≤60)
def fits21 (l:List Act21):Bool:=decide (l.length≤60) && l.all fit1
theorem getD_mem {l:List Act21} {k:Nat} (h:k < l.length):l.getD k default∈l:=by simp [List.getD_eq_getElem?_getD,h]
theorem all_of {l:List Act21} {f:Act21→Bool} (h:∀j,j < l.length→f (l.getD j default)=true):l.all f=true:=by
 rw [List.all_eq_true]
 intro q hq
 obtain ⟨i,hi,rfl⟩:=List.mem_iff_getElem.1 hq
 have:=h i hi
 simpa [List.getD_eq_getElem?_getD,hi] using this
set_option maxHeartbeats 800000 in
theorem fits21_any (l:List Act21) (v:Option Addr) (c b off:Nat) (W:World) (h:InAct21 W v l b off):
  Calls Try.prog 7 #[.slice v l.length c] W fun e w'=>e=.returned (.bool (fits21 l))∧w'=W:=by
 obtain ⟨h1,h2,h3⟩:=h
 have H3:=Lib.hid h3
 have H2:=Lib.hid h2
 clear h3 h2
 go_enter Try.func7,Try.ntmps7
 go_wp2
 go_loop [3] (fun i=>∃k:Nat,i=.int .i64 (k:Int)∧k≤l.length∧k≤61∧∀j,j < k→fit1 (l.getD j default)=true) (fun i=>61 - (intOf i).toNat)
 case atStart=>exact ⟨0,rfl,Nat.zero_le _,by omega,fun j hj=>absurd hj (by omega)⟩
 case round=>
  obtain ⟨k,rfl,hk,hk1,hall⟩:=hrel
  have HA:=Lib.hid hall
  clear hall
  by_cases hlt:k < l.length
  ·by_cases hk2:k≤60
   ·obtain ⟨rfl,hb⟩:=H2.out (by omega)
    have A:=H3.out k hlt
    have a1:=A.k1
    have a4:=A.k4
    have i0:(0:Int)≤(k:Int):=by omega
    have i1:(k:Int) < (l.length:Int):=by omega
    have hd1:decide ((k:Int)≤60)=true:=by simp;omega
    have HM:=Lib.hid (getD_mem hlt)
    clear A
    obtain ⟨q,hq⟩:∃q,q=l.getD k default:=⟨_,rfl⟩
    rw [← hq] at a1 a4 HM
    have HQ:=Lib.hid hq
    clear hq
    have HF:Hid (fit1 q=false→fits21 l=false):=Lib.hid (fun h=>by
     unfold fits21
     rw [Bool.and_eq_false_iff]
     right
     rw [List.all_eq_false]
     exact ⟨q,HM.out,by rw [h];decide⟩)
    by_cases hl:q.sizes.length≤60
    ·by_cases hl2:q.choices.length≤60
     ·have HL:Hid (fit1 q=true):=Lib.hid (by unfold fit1;rw [decide_eq_true hl,decide_eq_true hl2];rfl)
      generalize q.sizes.length=n at *
      generalize q.choices.length=m at *
      have hd2:decide ((60:Int) < (n:Int))=false:=by simp;omega
      have hd3:decide ((60:Int) < (m:Int))=false:=by simp;omega
      go_wp2
      go_round
      case rel=>exact ⟨k + 1,by go_num,by omega,by omega,fun j hj=>by
       by_cases e:j=k
       ·subst e;rw [← HQ.out];exact HL.out
       ·exact HA.out j (by omega)⟩
      case measure=>simp [intOf];omega
     ·have HL:Hid (fit1 q=false):=Lib.hid (by unfold fit1;rw [decide_eq_false hl2,Bool.and_false])
      generalize q.sizes.length=n at *
      generalize q.choices.length=m at *
      have hd2:decide ((60:Int) < (n:Int))=false:=by simp;omega
      have hd3:decide ((60:Int) < (m:Int))=true:=by simp;omega
      go_wp2
      go_ret
      exact ⟨by rw [HF.out HL.out];rfl,rfl⟩
    ·have HL:Hid (fit1 q=false):=Lib.hid (by unfold fit1;rw [decide_eq_false hl,Bool.false_and])
     generalize q.sizes.length=n at *
     have hd2:decide ((60:Int) < (n:Int))=true:=by simp;omega
     go_wp2
     go_ret
     exact ⟨by rw [HF.out HL.out];rfl,rfl⟩
   ·have hd1:decide ((k:Int)≤60)=false:=by simp;omega
    have hd2:decide ((l.length:Int)≤60)=false:=by simp;omega
    have HF:Hid (fits21 l=false):=Lib.hid (by
     unfold fits21
     rw [Bool.and_eq_false_iff]
     left
     simp;omega)
    go_wp2
    go_ret
    exact ⟨by rw [HF.out];rfl,rfl⟩
  ·obtain rfl:k=l.length:=by omega
   have HF:Hid (fits21 l=decide ((l.length:Int)≤60)):=Lib.hid (by
    unfold fits21
    rw [all_of HA.out,Bool.and_true]
    exact decide_eq_decide.2 (by omega))
   go_wp2
   go_ret
   exact ⟨by rw [HF.out];rfl,rfl⟩
def small1 (r:Nat) (q:Act21):Bool:=decide (q.after≤1073741824) && (decide (r≤1048576) && q.sizes.all fun x=>decide (x≤1073741824))
def small21 (r:Nat) (l:List Act21):Bool:=l.all (small1 r)
theorem small_no {r:Nat} {l:List Act21} {q:Act21} (hm:q∈l) (h:small1 r q=false):small21 r l=false:=by
 unfold small21
 rw [List.all_eq_false]
 exact ⟨q,hm,by rw [h];decide⟩
set_option maxHeartbeats 1000000 in
theorem small21_any (r d j b0:Nat) (l:List Act21) (v:Option Addr) (c b off:Nat) (W:World) (h:InAct21 W v l b off):
  Calls Try.prog 21 #[.agg #[.int .u64 (r:Int),.int .u64 (d:Int),.int .u64 (j:Int),.int .u64 (b0:Int)],.slice v l.length c] W fun e w'=>e=.returned (.bool (small21 r l))∧Below W.heap.size W w':=by
 have HI:=Lib.hid (h.keep (al_be W (.cells #[.int .u64 (r:Int),.int .u64 (d:Int),.int .u64 (j:Int),.int .u64 (b0:Int)] 24)))
 have HB:=Lib.hid (al_be W (.cells #[.int .u64 (r:Int),.int .u64 (d:Int),.int .u64 (j:Int),.int .u64 (b0:Int)] 24))
 have hr0:=(Blk.new W 24 #[.int .u64 (r:Int),.int .u64 (d:Int),.int .u64 (j:Int),.int .u64 (b0:Int)]).cell (i:=0) (v:=.int .u64 (r:Int)) rfl
 clear h
 go_enter Try.func21,Try.ntmps21
 go_wp2
 generalize hz:W.heap.size=z at *
 have HZ:=Lib.hid hz
 clear hz
 generalize W.alloc (.cells #[.int .u64 (r:Int),.int .u64 (d:Int),.int .u64 (j:Int),.int .u64 (b0:Int)] 24)=w0 at *
 go_loop [5] (fun i=>∃k:Nat,i=.int .i64 (k:Int)∧k≤l.length∧∀j,j < k→small1 r (l.getD j default)=true) (fun i=>l.length - (intOf i).toNat)
 case atStart=>exact ⟨0,rfl,Nat.zero_le _,fun j hj=>absurd hj (by omega)⟩
 case round=>
  obtain ⟨k,rfl,hk,hall⟩:=hrel
  have HA:=Lib.hid hall
  clear hall
  have hlm:=HI.out.1
  by_cases hlt:k < l.length
  ·obtain ⟨rfl,hb⟩:=HI.out.2.1 (by omega)
   have A:=HI.out.2.2 k hlt
   have a1:=A.k1
   have a2:=A.k2
   have HN:=Lib.hid A.s1
   have i0:(0:Int)≤(k:Int):=by omega
   have i1:(k:Int) < (l.length:Int):=by omega
   have HM:=Lib.hid (getD_mem hlt)
   clear A
   obtain ⟨q,hq⟩:∃q,q=l.getD k default:=⟨_,rfl⟩
   rw [← hq] at a1 a2 HM HN
   have HQ:=Lib.hid hq
   clear hq
   have HF:=Lib.hid (small_no (r:=r) HM.out)
   have hc1:decide (1073741824 < q.after)=!decide (q.after≤1073741824):=by rw [← decide_not];exact decide_eq_decide.2 (by omega)
   have hc2:decide (1048576 < r)=!decide (r≤1048576):=by rw [← decide_not];exact decide_eq_decide.2 (by omega)
   have HS:Hid (small1 r q=(decide (q.after≤1073741824) && (decide (r≤1048576) && q.sizes.all fun x=>decide (x≤1073741824)))):=Lib.hid rfl
   generalize q.after=t at *
   cases h1:decide (t≤1073741824) with
   | false=>
     rw [h1] at hc1 HS
     rw [Bool.not_false] at hc1
     have hc1':decide ((1073741824:Int) < (t:Int))=true:=by rw [← hc1];exact decide_eq_decide.2 (by omega)
     clear h1 hc2
     go_wp2
     go_ret
     exact ⟨by rw [HF.out HS.out];rfl,HZ.out▸HB.out⟩
   | true=>
     rw [h1] at hc1 HS
     rw [Bool.not_true] at hc1
     have hc1':decide ((1073741824:Int) < (t:Int))=false:=by rw [← hc1];exact decide_eq_decide.2 (by omega)
     clear h1
     cases h2:decide (r≤1048576) with
     | false=>
       rw [h2] at hc2 HS
       rw [Bool.not_false] at hc2
       have hc2':decide ((1048576:Int) < (r:Int))=true:=by rw [← hc2];exact decide_eq_decide.2 (by omega)
       clear h2
       go_wp2
       go_ret
       exact ⟨by rw [HF.out HS.out];rfl,HZ.out▸HB.out⟩
     | true=>
       rw [h2] at hc2 HS
       rw [Bool.not_true] at hc2
       have hc2':decide ((1048576:Int) < (r:Int))=false:=by rw [← hc2];exact decide_eq_decide.2 (by omega)
       clear h2
       have HS2:Hid (small1 r q=q.sizes.all fun x=>decide (x≤1073741824)):=Lib.hid (by rw [HS.out];simp)
       clear HS
       go_wp2
       go_loop [6] (fun i=>∃m:Nat,i=.int .i64 (m:Int)∧m≤q.sizes.length∧∀j,j < m→q.sizes.getD j 0≤1073741824) (fun i=>q.sizes.length - (intOf i).toNat)
       case atStart=>exact ⟨0,rfl,Nat.zero_le _,fun j hj=>absurd hj (by omega)⟩
       case round=>
        obtain ⟨m,rfl,hm,hall⟩:=hrel
        have HA2:=Lib.hid hall
        clear hall
        have hsm:q.sizes.length≤9223372036854775807:=Nat.le_trans HN.out.le HN.out.big
        by_cases hmt:m < q.sizes.length
        ·obtain ⟨b2,o2,hp,_,hcs⟩:=HN.out.nus (by omega)
         have hc:=hcs m hmt
         rw [hp] at a1
         have m0:(0:Int)≤(m:Int):=by omega
         have m1:(m:Int) < (q.sizes.length:Int):=by omega
         have HMm:Hid (q.sizes.getD m 0∈q.sizes):=Lib.hid (by simp [List.getD_eq_getElem?_getD,hmt])
         have HXm:=Lib.hid (show ∃x,x=q.sizes.getD m 0 from ⟨_,rfl⟩)
         obtain ⟨x,hx⟩:=HXm.out
         rw [← hx] at hc
         have HX:=Lib.hid hx
         clear hx hcs HXm
         by_cases hx1:x≤1073741824
         ·have hd:decide (1073741824 < x)=false:=by simp;omega
          have hd':decide ((1073741824:Int) < (x:Int))=false:=by simp;omega
          go_wp2
          go_round
          case rel=>exact ⟨m + 1,by go_num,by omega,fun j hj=>by
           by_cases e:j=m
           ·subst e;rw [← HX.out];exact hx1
           ·exact HA2.out j (by omega)⟩
          case measure=>simp [intOf];omega
         ·have hd:decide (1073741824 < x)=true:=by simp;omega
          have hd':decide ((1073741824:Int) < (x:Int))=true:=by simp;omega
          have HL:Hid (small1 r q=false):=Lib.hid (by
           rw [HS2.out,List.all_eq_false]
           exact ⟨x,by rw [HX.out];exact HMm.out,by simpa using hx1⟩)
          clear hx1
          go_wp2
          go_ret
          exact ⟨by rw [HF.out HL.out];rfl,HZ.out▸HB.out⟩
        ·obtain rfl:m=q.sizes.length:=by omega
         have HL:Hid (small1 r q=true):=Lib.hid (by
          rw [HS2.out,List.all_eq_true]
          intro x hx
          obtain ⟨i,hi,rfl⟩:=List.mem_iff_getElem.1 hx
          have:=HA2.out i hi
          simpa [List.getD_eq_getElem?_getD,hi] using this)
         go_wp2
         go_round
         case rel=>exact ⟨k + 1,by go_num,by omega,fun j hj=>by
          by_cases e:j=k
          ·subst e;rw [← HQ.out];exact HL.out
          ·exact HA.out j (by omega)⟩
         case measure=>simp [intOf];omega
  ·obtain rfl:k=l.length:=by omega
   have HF:Hid (small21 r l=true):=Lib.hid (all_of HA.out)
   go_wp2
   go_ret
   exact ⟨by rw [HF.out];rfl,HZ.out▸HB.out⟩
end Go.Proofs.Ytgpmnhhcjccofaa

set_option linter.unusedVariables false
namespace Go.Proofs.Ytgpmnhhcjccofaa
open Go.RowKit
theorem rf_Right (r d j b:Nat) (W:World):Calls Try.prog 12 #[.agg #[.int .u64 (r:Int),.int .u64 (d:Int),.int .u64 (j:Int),.int .u64 (b:Int)]] W fun e w'=>e=.returned (.bool (rightP r d j b))∧Below W.heap.size W w':=by
 unfold rightP
 obtain ⟨q0,hq0⟩:∃q,q=decide (1≤r):=⟨_,rfl⟩
 have g0:decide ((1:Int)≤(r:Int))=q0:=by rw [hq0];apply decide_eq_decide.2;omega
 obtain ⟨q1,hq1⟩:∃q,q=decide (r≤1099511627776):=⟨_,rfl⟩
 have g1:decide ((r:Int)≤(1099511627776:Int))=q1:=by rw [hq1];apply decide_eq_decide.2;omega
 obtain ⟨q2,hq2⟩:∃q,q=decide (d≤4398046511104):=⟨_,rfl⟩
 have g2:decide ((d:Int)≤(4398046511104:Int))=q2:=by rw [hq2];apply decide_eq_decide.2;omega
 obtain ⟨q3,hq3⟩:∃q,q=decide (j≤4398046511104):=⟨_,rfl⟩
 have g3:decide ((j:Int)≤(4398046511104:Int))=q3:=by rw [hq3];apply decide_eq_decide.2;omega
 obtain ⟨q4,hq4⟩:∃q,q=decide (1≤b):=⟨_,rfl⟩
 have g4:decide ((1:Int)≤(b:Int))=q4:=by rw [hq4];apply decide_eq_decide.2;omega
 obtain ⟨q5,hq5⟩:∃q,q=decide (b≤72057594037927936):=⟨_,rfl⟩
 have g5:decide ((b:Int)≤(72057594037927936:Int))=q5:=by rw [hq5];apply decide_eq_decide.2;omega
 rw [← hq0,← hq1,← hq2,← hq3,← hq4,← hq5]
 replace hq0:=hq0.symm
 replace hq1:=hq1.symm
 replace hq2:=hq2.symm
 replace hq3:=hq3.symm
 replace hq4:=hq4.symm
 replace hq5:=hq5.symm
 cases q0 with
 | false=>
   go_enter Try.func12,Try.ntmps12
   go_wp2
   go_ret
   exact ⟨rfl,al_be _ _⟩
 | true=>
   cases q1 with
   | false=>
     go_enter Try.func12,Try.ntmps12
     go_wp2
     go_ret
     exact ⟨rfl,al_be _ _⟩
   | true=>
     cases q2 with
     | false=>
       go_enter Try.func12,Try.ntmps12
       go_wp2
       go_ret
       exact ⟨rfl,al_be _ _⟩
     | true=>
       cases q3 with
       | false=>
         go_enter Try.func12,Try.ntmps12
         go_wp2
         go_ret
         exact ⟨rfl,al_be _ _⟩
       | true=>
         cases q4 with
         | false=>
           go_enter Try.func12,Try.ntmps12
           go_wp2
           go_ret
           exact ⟨rfl,al_be _ _⟩
         | true=>
           cases q5 with
           | false=>
             go_enter Try.func12,Try.ntmps12
             go_wp2
             go_ret
             exact ⟨rfl,al_be _ _⟩
           | true=>
             go_enter Try.func12,Try.ntmps12
             go_wp2
             go_ret
             exact ⟨rfl,al_be _ _⟩
def newP (n x:Nat):Pk:=⟨n,x,0,0,0,0,false⟩
def pkts (f:Nat) (l:List Nat):List Pk:=l.mapIdx fun i x=>newP (f + i) x
theorem pkts_len (f:Nat) (l:List Nat):(pkts f l).length=l.length:=by simp [pkts]
theorem pkts_snoc (f:Nat) (l:List Nat) (x:Nat):pkts f (l ++ [x])=pkts f l ++ [newP (f + l.length) x]:=by simp [pkts,List.mapIdx_append]
theorem pkts_size {f:Nat} {l:List Nat} {M:Nat} (h:∀x∈l,x≤M):∀p∈pkts f l,p.size≤M:=by
 intro p hp
 unfold pkts at hp
 obtain ⟨i,hi,rfl⟩:=List.mem_mapIdx.1 hp
 exact h _ (List.getElem_mem _)
theorem take_nat (l:List Nat) (k:Nat) (h:k < l.length):l.take (k + 1)=l.take k ++ [l.getD k 0]:=by
 rw [List.take_add_one];simp [h]
theorem pk_info21:(Try.prog.info? 68).map (fun i=>(i.zero,i.size,i.bytes))=some (some (.agg #[.int .u64 0,.int .u64 0,.int .u64 0,.int .u64 0,.int .u64 0,.int .u64 0,.bool false]),7,56):=by kernel_rfl
set_option maxRecDepth 100000 in
set_option maxHeartbeats 1000000 in
theorem packets_any (f:Nat) (l:List Nat) (ao:Option Addr) (cap:Nat) (W:World) (h:InNus W ao l.length cap l) (hl:l.length≤60) (hf:f≤3600):
  Calls Try.prog 17 #[.int .i64 (f:Int),.slice ao l.length cap] W fun e w'=>∃v,e=.returned v∧SOwn 68 W.heap.size w' v (pkts f l)∧Below W.heap.size W w':=by
 obtain ⟨i0,hi0,hz⟩:∃i,Try.prog.info? 68=some i∧(i.zero,i.size,i.bytes)=(some (.agg #[.int .u64 0,.int .u64 0,.int .u64 0,.int .u64 0,.int .u64 0,.int .u64 0,.bool false]),7,56):=by
  have:=pk_info21
  cases hq:Try.prog.info? 68 with
  | none=>rw [hq] at this;cases this
  | some i=>rw [hq] at this;exact ⟨i,rfl,by simpa using this⟩
 have hz0:i0.zero=some (.agg #[.int .u64 0,.int .u64 0,.int .u64 0,.int .u64 0,.int .u64 0,.int .u64 0,.bool false]):=congrArg (·.1) hz
 have hz1:i0.size=7:=congrArg (·.2.1) hz
 have hz2:i0.bytes=56:=congrArg (·.2.2) hz
 have HI:=Lib.hid hi0
 have HZ0:=Lib.hid hz0
 have HZ1:=Lib.hid hz1
 have HZ2:=Lib.hid hz2
 have HN:=Lib.hid h
 clear hi0 hz hz0 hz1 hz2 h
 go_enter Try.func17,Try.ntmps17
 go_wp2_with fail
 go_loopw [6,5] (fun i ov wr=>∃k:Nat,i=.int .i64 (k:Int)∧k≤l.length∧SOwn 68 W.heap.size wr ov (pkts f (l.take k))∧Below W.heap.size W wr) (fun i _ _=>l.length - (intOf i).toNat)
 case atStart=>exact ⟨0,rfl,Nat.zero_le _,SOwn.nil _ _ _,Below.refl _ _⟩
 case round=>
  obtain ⟨k,rfl,hk,ho,hbe⟩:=hrel
  by_cases hlt:k < l.length
  ·obtain ⟨b,off,rfl,hb,hcs⟩:=HN.out.nus (by omega)
   have hc:=(hbe.cell (p:=⟨b,off + k,none⟩) hb).trans (hcs k hlt)
   obtain ⟨x,hx⟩:∃x,x=l.getD k 0:=⟨_,rfl⟩
   rw [← hx] at hc
   have HLn:Hid ((pkts f (l.take k)).length=k):=Lib.hid (by rw [pkts_len,List.length_take];omega)
   have HT:Hid (pkts f (l.take (k + 1))=pkts f (l.take k) ++ [newP (f + k) x]):=Lib.hid (by rw [take_nat l k hlt,← hx,pkts_snoc,List.length_take,Nat.min_eq_left (by omega)])
   have HO:=Lib.hid ho
   have HBe:=Lib.hid hbe
   have HOne:=Lib.hid (Itm.one (newP (f + k) x))
   have j0:(0:Int)≤(k:Int):=by omega
   have j1:(k:Int) < (l.length:Int):=by omega
   have hs1:(f:Int) + (k:Int)=((f + k:Nat):Int):=by omega
   have hs2:IntKind.i64.wrap ((f + k:Nat):Int)=((f + k:Nat):Int):=by rw [IntKind.wrap_i64];omega
   have hs3:IntKind.u64.wrap ((f + k:Nat):Int)=((f + k:Nat):Int):=by rw [IntKind.wrap_u64];omega
   clear ho hbe hx hcs hb
   have HW:Hid (∀v,newP v x=⟨v,x,0,0,0,0,false⟩):=Lib.hid (fun _=>rfl)
   generalize f + k=fk at *
   generalize pkts f (l.take k)=pre at *
   obtain ⟨ap,cp,hv,hp1,hp2,_,_⟩:=HO.out.form
   subst hv
   have HO2:=Lib.hid (HO.out.keep (al_be wr (.cells #[.int .u64 (fk:Int),.int .u64 (x:Int),.int .u64 0,.int .u64 0,.int .u64 0,.int .u64 0,.bool false] 68)))
   have HNw:=Lib.hid (World.news_of_block (Blk.new wr 68 #[.int .u64 (fk:Int),.int .u64 (x:Int),.int .u64 0,.int .u64 0,.int .u64 0,.int .u64 0,.bool false]))
   have hsz:W.heap.size≤(wr.alloc (.cells #[.int .u64 (fk:Int),.int .u64 (x:Int),.int .u64 0,.int .u64 0,.int .u64 0,.int .u64 0,.bool false] 68)).heap.size:=by have:=HBe.out.size;simp;omega
   have hpl:pre.length≤5000:=by rw [HLn.out];omega
   go_wp2_with (at_builtin;refine wpList_append_own_at _ rfl (.tmp 13) (.tmp 23) 42 rfl W.heap.size 68 _ (.agg #[.int .u64 0,.int .u64 0,.int .u64 0,.int .u64 0,.int .u64 0,.int .u64 0,.bool false]) 7 56 Try.underlying42 HI.out HZ0.out HZ1.out HZ2.out rfl (by decide) (.slice ap pre.length cp) pre.length (pre.flatMap Itm.cs) rfl HO2.out ⟨wr.heap.size,0,none⟩ 1 1 (Itm.cs (newP fk x)) rfl rfl HNw.out HOne.out (by unfold maxLen;omega) (by omega) hsz ?_;intro v' w5 hown hgr hnil hat;have HW5:=Lib.hid hown;have HG:=Lib.hid hgr;clear hown hgr hnil hat)
   have HS:Hid (SOwn 68 W.heap.size w5 v' (pre ++ [newP fk x])):=Lib.hid (SOwn.snoc HW5.out)
   have HB5:=Lib.hid (bel_app HBe.out HBe.out.size HO.out (.cells #[.int .u64 (fk:Int),.int .u64 (x:Int),.int .u64 0,.int .u64 0,.int .u64 0,.int .u64 0,.bool false] 68) HG.out)
   clear HW5 HG HO HO2 HNw HBe
   go_wp2_with fail
   go_roundw
   case rel=>exact ⟨k + 1,by go_num,by omega,by rw [HT.out];exact HS.out,HB5.out⟩
   case measure=>simp [intOf];omega
  ·obtain rfl:k=l.length:=by omega
   rw [List.take_length] at ho
   have HO:=Lib.hid ho
   have HBe:=Lib.hid hbe
   clear ho hbe
   go_wp2_with fail
   go_ret
   exact ⟨_,rfl,HO.out,HBe.out⟩
end Go.Proofs.Ytgpmnhhcjccofaa

set_option linter.unusedVariables false
namespace Go.Proofs.Ytgpmnhhcjccofaa
open Go.RowKit
namespace LS
def act (s:LS) (f:Nat) (q:Act21):LS:=if q.tick then s.tick (s.t + q.after) q.waste q.choices else s.sends (pkts f q.sizes)
def more (f:Nat) (q:Act21):Nat:=if q.tick then f else f + q.sizes.length
theorem act_tick {s:LS} {f:Nat} {q:Act21} (h:q.tick=true):s.act f q=s.tick (s.t + q.after) q.waste q.choices:=by unfold act;rw [if_pos h]
theorem act_send {s:LS} {f:Nat} {q:Act21} (h:q.tick=false):s.act f q=s.sends (pkts f q.sizes):=by unfold act;rw [if_neg (by simp [h])]
theorem more_tick {f:Nat} {q:Act21} (h:q.tick=true):more f q=f:=by unfold more;rw [if_pos h]
theorem more_send {f:Nat} {q:Act21} (h:q.tick=false):more f q=f + q.sizes.length:=by unfold more;rw [if_neg (by simp [h])]
theorem mul_size {x:Nat} (h:x≤1073741824):Pl.mulS x 1000000=1000000 * x:=by unfold Pl.mulS;rw [Nat.mul_comm];omega
theorem take_n {k:KB} {x:Nat} (h:k.takeB x=true) (hx:x≤1073741824):(k.takeS x).n + 1000000 * x=k.n∧(k.takeS x).w=k.w∧(k.takeS x).r=k.r:=by
 unfold KB.takeB KB.spendB at h
 unfold KB.takeS KB.spendS
 rw [mul_size hx] at *
 have h':1000000 * x≤k.n:=of_decide_eq_true h
 rw [if_pos h']
 exact ⟨by show k.n - 1000000 * x + 1000000 * x=k.n;omega,rfl,rfl⟩
theorem take_r (k:KB) (x:Nat):(k.takeS x).r=k.r∧(k.takeS x).w=k.w:=by
 unfold KB.takeS
 generalize Pl.mulS x 1000000=m
 unfold KB.spendS;split <;> exact ⟨rfl,rfl⟩
structure Sm (r:Nat) (s:LS) (f k:Nat):Prop where
 ok:s.ok f
 few:f≤60 * k
 now:s.t=s.k.t
 t:s.t≤1073741824 * k
 rate:s.k.r=r
 came:s.came≤1073741824 * f
 sz:∀x∈s.q.l,x.size≤1073741824
 eq:1000000 * s.served + s.k.w + s.k.n=r * s.t
 lost:s.came=s.q.lost + totP s.q.l + s.served
theorem Sm.start (r d j b:Nat) (hr:r≤18446744073709551615) (hd:d≤18446744073709551615) (hj:j≤18446744073709551615) (hb:b≤18446744073709551615):Sm r (LS.start r d j b) 0 0:=
 ⟨LS.start_okL hr hd hj hb,Nat.le_refl _,rfl,Nat.le_refl _,rfl,Nat.le_refl _,(fun x h=>nomatch h),by show 1000000 * 0 + 0 + 0=r * 0;omega,rfl⟩
theorem put_lost (q:QK) (p:Pk) (h:QInv q) (hs:q.lost + p.size≤18446744073709551615):(q.putQ p).lost + totP (q.putQ p).l=q.lost + totP q.l + p.size∧(q.putQ p).room=q.room∧(∀x∈(q.putQ p).l,x∈q.l∨x=p):=by
 unfold QK.putQ
 split
 ·refine ⟨?_,rfl,fun x hx=>?_⟩
  ·show q.lost + totP (q.l ++ [p])=_;rw [totP_app,totP_cons,totP_nil];omega
  ·rcases List.mem_append.1 (show x∈q.l ++ [p] from hx) with c | c
   ·exact .inl c
   ·exact .inr (List.mem_singleton.1 c)
 ·refine ⟨?_,rfl,fun x hx=>.inl hx⟩
  show Pl.addS q.lost p.size + totP q.l=_
  unfold Pl.addS;omega
theorem Sm.sends {r:Nat} {k:Nat} (hk:k < 60):∀(l:List Pk) (s:LS) (f:Nat),(s.ok f∧s.t=s.k.t∧s.t≤1073741824 * k∧s.k.r=r∧s.came≤1073741824 * f∧(∀x∈s.q.l,x.size≤1073741824)∧1000000 * s.served + s.k.w + s.k.n=r * s.t∧s.came=s.q.lost + totP s.q.l + s.served)→
  f + l.length≤60 * (k + 1)→(∀x∈l,x.size≤1073741824)→Sm r (s.sends l) (f + l.length) (k + 1)∧(s.sends l).q.room=s.q.room:=by
 intro l
 induction l with
 | nil=>
   intro s f ⟨h1,h2,h3,h4,h5,h6,h7,h8⟩ hf _
   exact ⟨⟨h1,by simpa using hf,h2,by rw [Nat.mul_succ];show s.t≤_;omega,h4,h5,h6,h7,h8⟩,rfl⟩
 | cons p t ih=>
   intro s f ⟨h1,h2,h3,h4,h5,h6,h7,h8⟩ hf hp
   have hps:=hp p (by simp)
   rw [List.length_cons] at hf
   have hl:=put_lost s.q p h1.q (by omega)
   have:=ih (s.send1 p) (f + 1) ⟨h1.send (by omega),by rw [send1_t,send1_k];exact h2,by rw [send1_t];exact h3,by rw [send1_k];exact h4,by rw [send1_came];omega,by
    rw [send1_q]
    intro x hx
    rcases hl.2.2 x hx with c | c
    ·exact h6 x c
    ·rw [c];exact hps,by rw [send1_served,send1_k,send1_t];exact h7,by rw [send1_came,send1_q,send1_served];omega⟩ (by omega) (fun x hx=>hp x (by simp [hx]))
   rw [List.length_cons,show f + (t.length + 1)=f + 1 + t.length by omega]
   exact ⟨this.1,this.2.trans (by rw [send1_q];exact hl.2.1)⟩
structure Sv (r:Nat) (s:LS) (f:Nat):Prop where
 ok:s.ok f
 rate:s.k.r=r
 sz:∀x∈s.q.l,x.size≤1073741824
 eq:1000000 * s.served + s.k.w + s.k.n=r * s.t
 lost:s.came=s.q.lost + totP s.q.l + s.served
set_option maxRecDepth 100000 in
theorem Sv.serve1 {r:Nat} {s:LS} {f:Nat} (h:Sv r s f) (hm:s.may=true) (c:Nat):Sv r (s.serve1 c) f:=by
 have e:=some_cons (may_some hm)
 have hx:s.q.headQ.size≤1073741824:=h.sz _ (by rw [e];simp)
 obtain ⟨t1,t2,t3⟩:=take_n (may_take hm) hx
 have e2:totP s.q.l=s.q.headQ.size + totP s.q.shiftQ.l:=(congrArg totP e).trans (totP_cons _ _)
 have h1:=h.eq
 have h2:=h.lost
 refine ⟨h.ok.serve1 hm c,by rw [serve1_k,t3];exact h.rate,?_,?_,?_⟩
 ·rw [serve1_q]
  intro x hx
  exact h.sz x (by rw [e];exact List.mem_cons_of_mem _ hx)
 ·rw [serve1_served,serve1_k,serve1_t,t2]
  generalize (s.k.takeS s.q.headQ.size).n=a at *
  generalize r * s.t=y at *
  generalize s.q.headQ.size=z at *
  clear t2 t3 e e2 h2 h hm
  omega
 ·rw [serve1_came,serve1_q,serve1_served]
  show s.came=s.q.lost + totP s.q.shiftQ.l + (s.served + s.q.headQ.size)
  clear t1 t2 t3 e h1 h hm hx
  omega
theorem Sv.serve {r:Nat} {s:LS} {f:Nat} (h:Sv r s f) (cs:List Nat):Sv r (s.serve cs) f:=serve_ind (P:=fun x=>Sv r x f) (fun x c h hm=>h.serve1 hm c) _ s cs rfl h
theorem serve_cw (s:LS) (cs:List Nat):(s.serve cs).k.w=s.k.w∧(s.serve cs).came=s.came∧(s.serve cs).q.room=s.q.room∧(s.serve cs).deliv=s.deliv:=
 serve_ind (P:=fun x=>x.k.w=s.k.w∧x.came=s.came∧x.q.room=s.q.room∧x.deliv=s.deliv) (fun x c h hm=>⟨by rw [serve1_k,(take_r _ _).2];exact h.1,(serve1_came x c).trans h.2.1,by rw [serve1_q];exact h.2.2.1,(serve1_deliv x c).trans h.2.2.2⟩) _ s cs rfl ⟨rfl,rfl,rfl,rfl⟩
theorem to_n {k:KB} {now r:Nat} (hr:k.r=r) (ht:k.t≤now) (h:k.n + r * (now - k.t)≤18446744073709551615):(k.toS now).n=k.n + r * (now - k.t)∧(k.toS now).w=k.w∧(k.toS now).r=k.r:=by
 unfold KB.toS
 split
 ·next c=>
  have:now - k.t=0:=by omega
  rw [this];exact ⟨by omega,rfl,rfl⟩
 ·refine ⟨?_,rfl,rfl⟩
  show Pl.addS k.n (Pl.mulS k.r (now - k.t))=_
  unfold Pl.addS Pl.mulS
  rw [hr]
  generalize r * (now - k.t)=x at *
  omega
theorem waste_w (s:LS) (x:Nat) (h:s.k.w + s.k.n≤18446744073709551615):(s.wasteL x).k.w + (s.wasteL x).k.n=s.k.w + s.k.n∧s.k.w≤(s.wasteL x).k.w∧(s.k.w < (s.wasteL x).k.w→s.q.l=[])∧(s.wasteL x).k.r=s.k.r∧(s.wasteL x).served=s.served∧(s.wasteL x).q=s.q∧(s.wasteL x).came=s.came∧(s.wasteL x).deliv=s.deliv∧(s.wasteL x).j=s.j:=by
 unfold wasteL
 split
 ·exact ⟨rfl,Nat.le_refl _,fun h=>absurd h (Nat.lt_irrefl _),rfl,rfl,rfl,rfl,rfl,rfl⟩
 ·next c=>
  refine ⟨?_,?_,fun _=>some_no (by simpa using c),by rw [wasteK_k];rfl,wasteK_served s x,wasteK_q s x,wasteK_came s x,wasteK_deliv s x,wasteK_j s x⟩
  ·rw [wasteK_k]
   show Pl.addS s.k.w (min x s.k.n) + (s.k.n - min x s.k.n)=_
   unfold Pl.addS;omega
  ·rw [wasteK_k]
   show s.k.w≤Pl.addS s.k.w (min x s.k.n)
   unfold Pl.addS;omega
theorem big_le:1048576 * (1073741824 * 61)≤18446744073709551615:=by decide +kernel
theorem rt_le {r t k:Nat} (hr:r≤1048576) (ht:t≤1073741824 * k) (hk:k≤61):r * t≤1048576 * (1073741824 * 61):=
 Nat.mul_le_mul hr (Nat.le_trans ht (Nat.mul_le_mul_left _ hk))
set_option maxRecDepth 100000 in
theorem Sm.ahead {r:Nat} {s:LS} {f k:Nat} (h:Sm r s f k) (hr:r≤1048576) {now:Nat} (hn:s.t≤now) (hN:r * now≤18446744073709551615) (x:Nat) (cs:List Nat) (hm:now≤18446744073709551615):
  Sv r (s.ahead now x cs) f∧s.k.w≤(s.ahead now x cs).k.w∧(s.k.w < (s.ahead now x cs).k.w→(s.ahead now x cs).q.l=[])∧(s.ahead now x cs).came=s.came∧(s.ahead now x cs).q.room=s.q.room:=by
 have h1:=h.eq
 have hnow:=h.now
 have hsplit:r * now=r * s.t + r * (now - s.t):=by rw [← Nat.mul_add,Nat.add_sub_cancel' hn]
 obtain ⟨t1,t2,t3⟩:=to_n (k:=s.k) (now:=now) h.rate (by omega) (by rw [← hnow];omega)
 rw [← hnow] at t1
 have v0:Sv r (s.toT now) f:=⟨h.ok.toT hm,by rw [toT_k,t3];exact h.rate,by rw [toT_q];exact h.sz,by rw [toT_served,toT_k,toT_t,t1,t2];omega,by rw [toT_came,toT_q,toT_served];exact h.lost⟩
 have v1:=v0.serve cs
 have w1:=serve_cw (s.toT now) cs
 have e1:=v1.eq
 have et:((s.toT now).serve cs).t=now:=(serve_kt _ _).2.trans (toT_t s now)
 rw [et] at e1
 obtain ⟨a1,a2,a3,a4,a5,a6,a7,a8,a9⟩:=waste_w ((s.toT now).serve cs) x (by omega)
 have et2:(((s.toT now).serve cs).wasteL x).t=now:=(waste_t _ _).1.trans et
 have ew:((s.toT now).serve cs).k.w=s.k.w:=by rw [w1.1,toT_k,t2]
 unfold LS.ahead
 refine ⟨⟨v1.ok.waste x,by rw [a4];exact v1.rate,by rw [a6];exact v1.sz,by rw [a5,et2];omega,by rw [a7,a6,a5];exact v1.lost⟩,by rw [← ew];exact a2,?_,by rw [a7,w1.2.1,toT_came],by rw [a6,w1.2.2.1,toT_q]⟩
 rw [a6,← ew]
 exact a3
set_option maxRecDepth 100000 in
theorem Sm.tick {r:Nat} {s:LS} {f k:Nat} (h:Sm r s f k) (hr:r≤1048576) (hk:k < 60) {d:Nat} (hd:d≤1073741824) (x:Nat) (cs:List Nat):
  Sm r (s.tick (s.t + d) x cs) f (k + 1)∧s.k.w≤(s.tick (s.t + d) x cs).k.w∧(s.k.w < (s.tick (s.t + d) x cs).k.w→(s.tick (s.t + d) x cs).q.l=[])∧(s.tick (s.t + d) x cs).q.room=s.q.room:=by
 have ht:=h.t
 have htk:s.t + d≤1073741824 * (k + 1):=by rw [Nat.mul_succ];omega
 have hN:=rt_le hr htk (by omega)
 obtain ⟨v,w1,w2,w3,w4⟩:=h.ahead hr (Nat.le_add_right s.t d) (Nat.le_trans hN big_le) x cs (by clear hN;omega)
 have e:=v.eq
 have at':=ahead_t s (s.t + d) x cs
 unfold LS.tick
 refine ⟨⟨v.ok.deliver,by have:=h.few;omega,?_,by rw [deliver_t,at'];exact htk,by rw [deliver_k];exact v.rate,by rw [deliver_came,w3];exact h.came,by rw [deliver_q];exact v.sz,by rw [deliver_served,deliver_k,deliver_t];exact e,by rw [deliver_came,deliver_q,deliver_served];exact v.lost⟩,by rw [deliver_k];exact w1,by rw [deliver_k,deliver_q];exact w2,by rw [deliver_q];exact w4⟩
 have:=tick_now h.now (Nat.le_add_right s.t d) x cs
 exact this
theorem Sm.act {r:Nat} {s:LS} {f k:Nat} {q:Act21} (h:Sm r s f k) (hk:k < 60) (h1:small1 r q=true) (h2:fit1 q=true):
  Sm r (s.act f q) (more f q) (k + 1)∧s.k.w≤(s.act f q).k.w∧(s.k.w < (s.act f q).k.w→(s.act f q).q.l=[])∧(s.act f q).q.room=s.q.room:=by
 unfold small1 at h1
 unfold fit1 at h2
 simp only [Bool.and_eq_true,decide_eq_true_eq,List.all_eq_true] at h1 h2
 obtain ⟨ha,hr,hz⟩:=h1
 cases ht:q.tick with
 | true=>rw [act_tick ht,more_tick ht];exact h.tick hr hk ha q.waste q.choices
 | false=>
   rw [act_send ht,more_send ht]
   have hf:=h.few
   have:=Sm.sends hk (pkts f q.sizes) s f ⟨h.ok,h.now,h.t,h.rate,h.came,h.sz,h.eq,h.lost⟩ (by rw [pkts_len];omega) (pkts_size (fun x hx=>hz x hx))
   rw [pkts_len] at this
   have e:=sends_same (pkts f q.sizes) s
   exact ⟨this.1,by rw [e.2.1];exact Nat.le_refl _,fun hlt=>absurd hlt (by rw [e.2.1];exact Nat.lt_irrefl _),this.2⟩
end LS
end Go.Proofs.Ytgpmnhhcjccofaa

set_option linter.unusedVariables false
namespace Go.Proofs.Ytgpmnhhcjccofaa
open Go.RowKit
theorem OwnE.base {W w w':World} {b:Nat} {s:LS} (h:OwnE w b s w') (k:Below W.heap.size W w):OwnE W b s w':=by
 obtain ⟨p,h1,h2⟩:=h
 exact ⟨p,h1,h2.at_,fun x hx=>Nat.le_trans k.size (h2.lo x hx),bel_to k h2.bel k.size⟩
theorem away_in {W w:World} {ao:Option Addr} {n cap:Nat} {cs:List Nat} (h:InNus W ao n cap cs) (k:Below W.heap.size W w) (p:PL) (hp:∀x∈p.l,W.heap.size≤x):Away w p ao cs cap:=by
 refine ⟨h.nus.keep k,fun h1 a e hm=>?_,fun h1 a e=>?_,h.mx,by rw [h.len];exact h.le,h.big⟩
 ·have:=h.lt h1 a e
  have:=hp _ hm
  omega
 ·have:=h.lt h1 a e
  have:=k.size
  omega
theorem oe_act {W:World} {b:Nat} {s:LS} {q:Act21} (ho:s.ok 5000) (hq:InNus W q.p2 q.choices.length q.c2 q.choices) (hw:q.waste≤18446744073709551615) (hm:s.t + q.after≤18446744073709551615):∀w,OwnE W b s w→
  Calls Try.prog 14 #[.pointer (some ⟨b,0,none⟩),.int .u64 ((s.t + q.after:Nat):Int),.int .u64 (q.waste:Int),.slice q.p2 q.choices.length q.c2] w fun e w'=>∃v,e=.returned (.tuple #[v,.int .i64 0])∧Hid (SOwn 68 w.heap.size w' v (s.tickOut (s.t + q.after) q.waste q.choices))∧Hid (OwnE W b (s.tick (s.t + q.after) q.waste q.choices) w'):=
 fun w h=>oe_Tick W b s (s.t + q.after) q.waste q.choices q.p2 q.c2 w w h (Below.refl _ _) ho (Nat.le_add_right _ _) hm hw (fun p hp=>away_in hq h.bel p (fun x hx=>(hp x hx).1))
theorem act_r {W:World} {ab o:Nat} {q:Act21} (h:Act21At W ab o q) (hb:ab < W.heap.size) {b:Nat} {s:LS}:∀w,Hid (OwnE W b s w)→w.cell? ⟨ab,o,none⟩=some (.bool q.tick)∧w.cell? ⟨ab,o + 1,none⟩=some (.slice q.p1 q.sizes.length q.c1)∧w.cell? ⟨ab,o + 2,none⟩=some (.int .u64 (q.after:Int))∧w.cell? ⟨ab,o + 3,none⟩=some (.int .u64 (q.waste:Int))∧w.cell? ⟨ab,o + 4,none⟩=some (.slice q.p2 q.choices.length q.c2):=fun w k=>by
 have A:=h.keep hb k.out.bel
 exact ⟨A.k0,A.k1,A.k2,A.k3,A.k4⟩
theorem path_r {W:World} {z r d j b0:Nat} (h:Blk W z 24 #[.int .u64 (r:Int),.int .u64 (d:Int),.int .u64 (j:Int),.int .u64 (b0:Int)]) {b:Nat} {s:LS}:∀w,Hid (OwnE W b s w)→w.cell? ⟨z,0,none⟩=some (.int .u64 (r:Int))∧w.cell? ⟨z,1,none⟩=some (.int .u64 (d:Int))∧w.cell? ⟨z,2,none⟩=some (.int .u64 (j:Int))∧w.cell? ⟨z,3,none⟩=some (.int .u64 (b0:Int)):=fun w k=>by
 have B:=h.keep k.out.bel
 exact ⟨B.cell rfl,B.cell rfl,B.cell rfl,B.cell rfl⟩
theorem oe_packets {W:World} {b:Nat} {s:LS} {q:Act21} (f:Nat) (hq:InNus W q.p1 q.sizes.length q.c1 q.sizes) (hl:q.sizes.length≤60) (hf:f≤3600):∀w,OwnE W b s w→
  Calls Try.prog 17 #[.int .i64 (f:Int),.slice q.p1 q.sizes.length q.c1] w fun e w'=>∃ao cap,e=.returned (.slice ao q.sizes.length cap)∧Hid (Its w' ao (pkts f q.sizes))∧Hid (0 < (pkts f q.sizes).length→∀a,ao=some a→w.heap.size≤a.block)∧Hid (Below w.heap.size w w'):=
 fun w h=>(packets_any f q.sizes q.p1 q.c1 w (hq.keep h.bel) hl hf).mono fun e w' k=>by
  obtain ⟨v,he,hv,hb⟩:=k
  obtain ⟨ao,cap,rfl,_,_,hi,hg⟩:=hv.form
  rw [pkts_len] at he
  refine ⟨ao,cap,he,Lib.hid hi,Lib.hid (fun hp a e=>?_),Lib.hid hb⟩
  obtain ⟨g,rfl,h2⟩:=hg hp
  cases e
  have:=hv.base (m:=w.heap.size) (Nat.le_refl _)
  rw [h2] at this
  exact this
def LT (T:TypeId):Prop:=T≠88∧T≠107∧T≠113∧T≠129∧T≠68∧T≠119∧T≠132∧T≠117
instance (T:TypeId):Decidable (LT T):=by unfold LT;infer_instance
def KL (w w':World):Prop:=∀k T cs,LT T→Blk w k T cs→Blk w' k T cs
theorem kl_of {w w':World} {p:PL} {s:LS} (hh:LkAt w p s) (k:Fr w w' p.l):KL w w':=fun g T cs hT hb=>hb.fr k (fun hx=>by
 obtain ⟨t1,t2,t3,t4,t5,t6,t7,t8⟩:=hT
 have a1:=hh.head
 have a2:=hh.k
 have a3:=hh.q.head
 obtain ⟨_,a4⟩:=hh.q.row.head
 obtain ⟨_,a5⟩:=hh.q.row.body
 have a6:=hh.j.head
 obtain ⟨_,a7⟩:=hh.j.row.head
 obtain ⟨_,a8⟩:=hh.j.row.body
 simp only [PL.l,List.mem_cons,List.not_mem_nil,or_false] at hx
 rcases hx with c | c | c | c | c | c | c | c
 ·exact hb.ty a1 t1 c
 ·exact hb.ty a2 t2 c
 ·exact hb.ty a3 t3 c
 ·exact hb.ty a4 t4 c
 ·exact hb.ty a5 t5 c
 ·exact hb.ty a6 t6 c
 ·exact hb.ty a7 t7 c
 ·exact hb.ty a8 t8 c)
theorem oe_SendK (W:World) (b:Nat) (s:LS) (N:Nat) (l:List Pk) (n:Nat) (hn:l.length=n) (ao:Option Addr) (cap:Nat) (wr w:World) (h:OwnE W b s wr) (k:Below wr.heap.size wr w) (ho:s.ok N) (hi:Its w ao l) (ha:0 < l.length→∀a,ao=some a→wr.heap.size≤a.block) (hz:∀x∈l,x.size≤18446744073709551615) (hN:N + l.length≤5000):
  Calls Try.prog 18 #[.pointer (some ⟨b,0,none⟩),.slice ao n cap] w fun e w'=>e=.returned (.int .i64 (s.kept l:Int))∧Hid (OwnE W b (s.sends l) w')∧Hid (KL w w'):=by
 subst hn
 obtain ⟨p,rfl,h1⟩:=h
 have h2:=h1.to k
 refine (lk_Send p s N l ao cap w h2.at_ ho hi (fun hp a e hm=>?_) hz hN).mono fun e w' q=>⟨q.e,Lib.hid ?_,Lib.hid (kl_of h2.at_ q.li.fr)⟩
 ·have:=h1.at_.lt _ hm
  have:=ha hp a e
  omega
 ·obtain ⟨p',e1,e2,_⟩:=h2.li q.li
  exact ⟨p',e1,e2⟩
theorem fit_of {l:List Act21} (h:fits21 l=true):l.length≤60∧∀k,k < l.length→fit1 (l.getD k default)=true:=by
 unfold fits21 at h
 simp only [Bool.and_eq_true,decide_eq_true_eq,List.all_eq_true] at h
 exact ⟨h.1,fun k hk=>h.2 _ (getD_mem hk)⟩
theorem small_of {r:Nat} {l:List Act21} (h:small21 r l=true):∀k,k < l.length→small1 r (l.getD k default)=true:=by
 unfold small21 at h
 rw [List.all_eq_true] at h
 exact fun k hk=>h _ (getD_mem hk)
theorem fit_sizes {q:Act21} (h:fit1 q=true):q.sizes.length≤60:=by
 unfold fit1 at h
 simp only [Bool.and_eq_true,decide_eq_true_eq] at h
 exact h.1
theorem small_after {r:Nat} {q:Act21} (h:small1 r q=true):q.after≤1073741824∧r≤1048576∧∀x∈q.sizes,x≤1073741824:=by
 unfold small1 at h
 simp only [Bool.and_eq_true,decide_eq_true_eq,List.all_eq_true] at h
 exact ⟨h.1,h.2.1,h.2.2⟩
end Go.Proofs.Ytgpmnhhcjccofaa

set_option linter.unusedVariables false
namespace Go.Proofs.Ytgpmnhhcjccofaa
open Go.RowKit
def Inc:Nat→List Pk→Prop
 | _,[]=>True
 | nx,p :: t=>nx≤p.n∧Inc (p.n + 1) t
def aft:Nat→List Pk→Nat
 | nx,[]=>nx
 | _,p :: t=>aft (p.n + 1) t
theorem inc_app:∀(a:List Pk) (b:List Pk) (nx:Nat),Inc nx (a ++ b)↔Inc nx a∧Inc (aft nx a) b
 | [],b,nx=>by simp [Inc,aft]
 | p :: t,b,nx=>by
   show (nx≤p.n∧Inc (p.n + 1) (t ++ b))↔(nx≤p.n∧Inc (p.n + 1) t)∧Inc (aft (p.n + 1) t) b
   rw [inc_app t b (p.n + 1)]
   exact ⟨fun ⟨h1,h2,h3⟩=>⟨⟨h1,h2⟩,h3⟩,fun ⟨⟨h1,h2⟩,h3⟩=>⟨h1,h2,h3⟩⟩
theorem aft_app:∀(a:List Pk) (b:List Pk) (nx:Nat),aft nx (a ++ b)=aft (aft nx a) b
 | [],b,nx=>rfl
 | p :: t,b,nx=>aft_app t b (p.n + 1)
theorem aft_le:∀(a:List Pk) (nx f:Nat),(∀x∈a,x.n < f)→nx≤f→aft nx a≤f
 | [],nx,f,_,h=>h
 | p :: t,nx,f,ha,h=>aft_le t (p.n + 1) f (fun x hx=>ha x (by simp [hx])) (ha p (by simp))
theorem inc_at {l:List Pk} {nx:Nat} (h:Inc nx l) (m:Nat) (hm:m < l.length) (x:Pk) (hx:x=l.getD m Itm.z):aft nx (l.take m)≤x.n∧aft nx (l.take (m + 1))=x.n + 1:=by
 have e:l=l.take m ++ x :: l.drop (m + 1):=by
  rw [hx]
  have:l.drop m=l.getD m Itm.z :: l.drop (m + 1):=by
   rw [List.drop_eq_getElem_cons hm];simp [List.getD_eq_getElem?_getD,hm]
  rw [← this,List.take_append_drop]
 rw [e,inc_app] at h
 exact ⟨h.2.1,by rw [take_snoc l m hm x hx,aft_app];rfl⟩
namespace LS
def all (s:LS):List Pk:=s.j.pks ++ s.q.l
structure Ord (s:LS) (f nx:Nat):Prop where
 inc:Inc nx s.all
 ub:∀x∈s.all,x.n < f
 le:nx≤f
theorem Ord.start (r d j b:Nat):Ord (LS.start r d j b) 0 0:=⟨trivial,(fun x h=>nomatch h),Nat.le_refl _⟩
theorem all_serve1 (s:LS) (hm:s.may=true) (c:Nat):(s.serve1 c).all=s.all:=by
 have e:=some_cons (may_some hm)
 unfold all
 rw [serve1_j,serve1_q,pks_put,List.append_assoc]
 show s.j.pks ++ (s.q.headQ :: s.q.shiftQ.l)=_
 rw [← e]
theorem all_serve (s:LS) (cs:List Nat):(s.serve cs).all=s.all:=serve_ind (P:=fun x=>x.all=s.all) (fun x c h hm=>(all_serve1 x hm c).trans h) _ s cs rfl rfl
theorem all_ahead (s:LS) (now x:Nat) (cs:List Nat):(s.ahead now x cs).all=s.all:=by
 have e:((s.toT now).serve cs).all=s.all:=by rw [all_serve];unfold all;rw [toT_j,toT_q]
 unfold ahead wasteL
 split
 ·exact e
 ·rw [← e];unfold all;rw [wasteK_j,wasteK_q]
theorem all_deliver (s:LS):s.all=s.out ++ s.deliver.all:=by
 unfold all
 rw [deliver_j,deliver_q,told_out s.j s.t,List.append_assoc]
 rfl
theorem Ord.tick {s:LS} {f nx:Nat} (h:Ord s f nx) (now x:Nat) (cs:List Nat):Inc nx (s.tickOut now x cs)∧(∀y∈s.tickOut now x cs,y.n < f)∧Ord (s.tick now x cs) f (aft nx (s.tickOut now x cs)):=by
 have e:=all_ahead s now x cs
 rw [all_deliver] at e
 have h1:=h.inc
 have h2:=h.ub
 rw [← e] at h1 h2
 rw [inc_app] at h1
 have h3:∀y∈(s.ahead now x cs).out,y.n < f:=fun y hy=>h2 y (List.mem_append_left _ hy)
 exact ⟨h1.1,h3,h1.2,fun y hy=>h2 y (List.mem_append_right _ hy),aft_le _ _ _ h3 h.le⟩
def Num:Nat→List Pk→Prop
 | _,[]=>True
 | f,p :: t=>p.n=f∧Num (f + 1) t
theorem num_pkts:∀(l:List Nat) (f:Nat),Num f (pkts f l)
 | [],f=>trivial
 | x :: t,f=>by
   have e:pkts f (x :: t)=newP f x :: pkts (f + 1) t:=by
    unfold pkts
    rw [List.mapIdx_cons,Nat.add_zero]
    congr 1
    apply congrArg (fun g=>List.mapIdx g t)
    funext i y
    rw [show f + (i + 1)=f + 1 + i by omega]
   rw [e]
   exact ⟨rfl,num_pkts t (f + 1)⟩
theorem Ord.send1 {s:LS} {f nx:Nat} (h:Ord s f nx) {p:Pk} (hp:p.n=f):Ord (s.send1 p) (f + 1) nx:=by
 have hl:=h.le
 have hall:(s.send1 p).all=s.all∨(s.send1 p).all=s.all ++ [p]:=by
  unfold all
  rw [send1_j,send1_q]
  unfold QK.putQ
  split
  ·right;show s.j.pks ++ (s.q.l ++ [p])=_;rw [List.append_assoc]
  ·left;rfl
 rcases hall with e | e
 ·exact ⟨by rw [e];exact h.inc,fun x hx=>by rw [e] at hx;have:=h.ub x hx;omega,by omega⟩
 ·refine ⟨?_,fun x hx=>?_,by omega⟩
  ·rw [e,inc_app]
   exact ⟨h.inc,by rw [hp];exact aft_le _ _ _ h.ub hl,trivial⟩
  ·rw [e] at hx
   rcases List.mem_append.1 hx with c | c
   ·have:=h.ub x c;omega
   ·rw [List.mem_singleton.1 c,hp];omega
theorem Ord.sends:∀(l:List Pk) (s:LS) (f nx:Nat),Ord s f nx→Num f l→Ord (s.sends l) (f + l.length) nx
 | [],s,f,nx,h,_=>h
 | p :: t,s,f,nx,h,hn=>by
   have:=Ord.sends t (s.send1 p) (f + 1) nx (h.send1 hn.1) hn.2
   rw [List.length_cons,show f + (t.length + 1)=f + 1 + t.length by omega]
   exact this
structure Env (s:LS) (r b0:Nat):Prop where
 a:told s.came=s.q.lost + s.q.n + told s.served
 b:told s.served=told (s.served - s.deliv) + told s.deliv
 c:s.q.n≤b0
 d:1000000 * told s.served + s.k.w + s.k.n=r * s.t
 m:told s.came≤1073741824 * 3660
 t:1000000 * told s.served + s.k.w + s.k.n≤1048576 * (1073741824 * 61)
theorem Sm.env {s:LS} {r b0 f k:Nat} (h:Sm r s f k) (hr:r≤1048576) (hk:k≤61) (hb:s.q.room=b0):Env s r b0:=by
 have h1:=h.lost
 have h2:=h.came
 have h3:=h.few
 have h4:=h.ok.q.n
 have h5:=h.ok.q.le
 have h6:=h.ok.c2
 have h7:=h.eq
 have h8:=rt_le hr h.t hk
 have h9:s.came≤1073741824 * 3660:=by omega
 have e1:told s.came=s.came:=by unfold told;omega
 have e2:told s.served=s.served:=by unfold told;omega
 have e3:told (s.served - s.deliv)=s.served - s.deliv:=by unfold told;omega
 have e4:told s.deliv=s.deliv:=by unfold told;omega
 exact ⟨by rw [e1,e2];omega,by rw [e2,e3,e4];omega,by omega,by rw [e2];exact h7,by rw [e1];exact h9,by rw [e2,h7];exact h8⟩
end LS
end Go.Proofs.Ytgpmnhhcjccofaa

set_option linter.unusedVariables false
namespace Go.Proofs.Ytgpmnhhcjccofaa
open Go.RowKit
set_option maxRecDepth 100000 in
set_option maxHeartbeats 4000000 in
theorem LinkEnvelope_walk (r d j b0:Nat) (v:Option Addr) (len cap:Nat) (l:List Act21) (ab off:Nat) (W:World) (hp:r≤18446744073709551615∧d≤18446744073709551615∧j≤18446744073709551615∧b0≤18446744073709551615) (hl:l.length=len∧InAct21 W v l ab off):
  Calls Try.prog 4 #[.agg #[.int .u64 (r:Int),.int .u64 (d:Int),.int .u64 (j:Int),.int .u64 (b0:Int)],.slice v len cap] W fun e w'=>e=.returned (.bool true)∧Below W.heap.size W w':=by
 obtain ⟨rfl,hi⟩:=hl
 have HI:=Lib.hid (hi.keep (al_be W (.cells #[.int .u64 (r:Int),.int .u64 (d:Int),.int .u64 (j:Int),.int .u64 (b0:Int)] 24)))
 have HBel:=Lib.hid (al_be W (.cells #[.int .u64 (r:Int),.int .u64 (d:Int),.int .u64 (j:Int),.int .u64 (b0:Int)] 24))
 have HBx:=Lib.hid (Blk.new W 24 #[.int .u64 (r:Int),.int .u64 (d:Int),.int .u64 (j:Int),.int .u64 (b0:Int)])
 have HP:=Lib.hid hp
 have b0c:=HBx.out.cell (i:=0) (v:=.int .u64 (r:Int)) rfl
 have b1c:=HBx.out.cell (i:=1) (v:=.int .u64 (d:Int)) rfl
 have b2c:=HBx.out.cell (i:=2) (v:=.int .u64 (j:Int)) rfl
 have b3c:=HBx.out.cell (i:=3) (v:=.int .u64 (b0:Int)) rfl
 clear hi hp
 go_enter Try.func4,Try.ntmps4
 go_wp2_with fail
 generalize hz:W.heap.size=z at *
 have HZ:=Lib.hid hz
 clear hz
 generalize W.alloc (.cells #[.int .u64 (r:Int),.int .u64 (d:Int),.int .u64 (j:Int),.int .u64 (b0:Int)] 24)=W1 at *
 replace HBel:Hid (Below W.heap.size W W1):=Lib.hid (by rw [HZ.out];exact HBel.out)
 refine (fits21_any l v cap ab off W1 HI.out).mono ?_
 rintro e w ⟨rfl,hw⟩
 rw [hw]
 clear hw
 go_wp2_with fail
 refine (rf_Right r d j b0 _).mono ?_
 rintro e w2 ⟨rfl,hb⟩
 have HB2:=Lib.hid hb
 have BX2:=Lib.hid (HBx.out.keep hb)
 clear hb b0c b1c b2c b3c
 have b0c:=BX2.out.cell (i:=0) (v:=.int .u64 (r:Int)) rfl
 have b1c:=BX2.out.cell (i:=1) (v:=.int .u64 (d:Int)) rfl
 have b2c:=BX2.out.cell (i:=2) (v:=.int .u64 (j:Int)) rfl
 have b3c:=BX2.out.cell (i:=3) (v:=.int .u64 (b0:Int)) rfl
 go_wp2_with fail
 refine (small21_any r d j b0 l v cap ab off w2 (HI.out.keep HB2.out)).mono ?_
 rintro e w3 ⟨rfl,hb⟩
 have HB3:Hid (Below W1.heap.size W1 w3):=Lib.hid (bel_to HB2.out hb HB2.out.size)
 have BX3:=Lib.hid (BX2.out.keep hb)
 clear hb HB2 BX2 b0c b1c b2c b3c
 have b0c:=BX3.out.cell (i:=0) (v:=.int .u64 (r:Int)) rfl
 have b1c:=BX3.out.cell (i:=1) (v:=.int .u64 (d:Int)) rfl
 have b2c:=BX3.out.cell (i:=2) (v:=.int .u64 (j:Int)) rfl
 have b3c:=BX3.out.cell (i:=3) (v:=.int .u64 (b0:Int)) rfl
 cases hF:fits21 l with
 | false=>
   go_wp2_with fail
   refine (alive21 _).mono ?_
   rintro e w9 ⟨rfl,hb⟩
   have HB9:=Lib.hid (HBel.out.trans ((bel_to HB3.out hb HB3.out.size).mono HBel.out.size))
   clear hb
   go_wp2_with fail
   go_ret
   exact ⟨rfl,HB9.out⟩
 | true=>
 cases hR:rightP r d j b0 with
 | false=>
   go_wp2_with fail
   refine (alive21 _).mono ?_
   rintro e w9 ⟨rfl,hb⟩
   have HB9:=Lib.hid (HBel.out.trans ((bel_to HB3.out hb HB3.out.size).mono HBel.out.size))
   clear hb
   go_wp2_with fail
   go_ret
   exact ⟨rfl,HB9.out⟩
 | true=>
 cases hS:small21 r l with
 | false=>
   go_wp2_with fail
   refine (alive21 _).mono ?_
   rintro e w9 ⟨rfl,hb⟩
   have HB9:=Lib.hid (HBel.out.trans ((bel_to HB3.out hb HB3.out.size).mono HBel.out.size))
   clear hb
   go_wp2_with fail
   go_ret
   exact ⟨rfl,HB9.out⟩
 | true=>
 have HFit:=Lib.hid (fit_of hF)
 have HSml:=Lib.hid (small_of hS)
 have HNw:=Lib.hid (oe_New r d j b0 w3 hR)
 have HF60:=(fit_of hF).1
 clear hF hS hR
 go_wp2_with fail
 refine HNw.out.mono ?_
 rintro e w4 ⟨b,rfl,h0⟩
 have H0:=Lib.hid (h0.out.base HB3.out)
 clear h0 HNw HB3 BX3 b0c b1c b2c b3c
 go_wp2_with fail
 go_loopw [10,11,12] (fun fv nv i wr=>∃(k f nx:Nat) (s:LS),fv=.int .i64 (f:Int)∧nv=.int .u64 (nx:Int)∧i=.int .i64 (k:Int)∧k≤l.length∧Hid (LS.Sm r s f k)∧Hid (LS.Ord s f nx)∧s.q.room=b0∧Hid (OwnE W1 b s wr)) (fun _ _ i _=>l.length - (intOf i).toNat)
 case atStart=>exact ⟨0,0,0,_,rfl,rfl,rfl,Nat.zero_le _,Lib.hid (LS.Sm.start r d j b0 HP.out.1 HP.out.2.1 HP.out.2.2.1 HP.out.2.2.2),Lib.hid (LS.Ord.start r d j b0),rfl,H0⟩
 case round=>
  obtain ⟨k,f,nx,s,rfl,rfl,rfl,hk,HSm,HOr,hroom,H⟩:=hrel
  clear H0
  by_cases hlt:k < l.length
  ·obtain ⟨rfl,hab⟩:=HI.out.2.1 (by omega)
   have hA:=HI.out.2.2 k hlt
   have HM1:=Lib.hid (HFit.out.2 k hlt)
   have HM2:=Lib.hid (HSml.out k hlt)
   have hact:=HSm.out.act (q:=l.getD k default) (by omega) HM2.out HM1.out
   obtain ⟨q,hq⟩:∃q,q=l.getD k default:=⟨_,rfl⟩
   rw [← hq] at hA HM1 HM2 hact
   clear hq
   have HAct:=Lib.hid hact
   have HR:=Lib.hid (fun (s:LS)=>act_r hA hab (b:=b) (s:=s))
   have HA:=Lib.hid hA
   have i0:(0:Int)≤(k:Int):=by omega
   have i1:(k:Int) < (l.length:Int):=by omega
   have hsf:=HSm.out.few
   have hst:=HSm.out.t
   have hsa:=small_after HM2.out
   have HEn:=Lib.hid (HAct.out.1.env (by exact hsa.2.1) (by omega) (HAct.out.2.2.2.trans hroom))
   clear hact hab hA
   go_wp2_with fail
   refine (oe_Tokens W1 b s wr H.out).mono ?_
   rintro e w1 ⟨rfl,hd⟩
   have H1:=Lib.hid (H.out.to (hd.below _))
   clear hd H
   obtain ⟨a0,a1,a2,a3,a4⟩:=HR.out s w1 H1
   have hku:=HSm.out.ok.k.2.1
   cases ht:q.tick with
   | true=>
     rw [ht] at a0
     rw [LS.act_tick ht] at HAct HEn
     rw [LS.more_tick ht] at HAct
     have hs1:(s.t:Int) + (q.after:Int)=((s.t + q.after:Nat):Int):=by omega
     have hs2:IntKind.u64.wrap ((s.t + q.after:Nat):Int)=((s.t + q.after:Nat):Int):=by rw [IntKind.wrap_u64];omega
     have HT:=Lib.hid (oe_act (W:=W1) (b:=b) (s:=s) (q:=q) (HSm.out.ok.more (by omega)) HA.out.s4 HA.out.b3 (by omega))
     have HOt:=Lib.hid (HOr.out.tick (s.t + q.after) q.waste q.choices)
     have ra:∀w,Hid (OwnE W1 b s w)→w.cell? ⟨ab,off + k * 5 + 2,none⟩=some (.int .u64 (q.after:Int)):=fun w h=>(HR.out s w h).2.2.1
     have rb:∀w,Hid (OwnE W1 b s w)→w.cell? ⟨ab,off + k * 5 + 3,none⟩=some (.int .u64 (q.waste:Int)):=fun w h=>(HR.out s w h).2.2.2.1
     have rc:∀w,Hid (OwnE W1 b s w)→w.cell? ⟨ab,off + k * 5 + 4,none⟩=some (.slice q.p2 q.choices.length q.c2):=fun w h=>(HR.out s w h).2.2.2.2
     have M0:Hid (OwnE W1 b s w1.drew):=Lib.hid (H1.out.to ((Drawn.drew _).below _))
     have HWl:=Lib.hid HAct.out.2.1
     have HWs:Hid (s.k.w < (s.tick (s.t + q.after) q.waste q.choices).k.w→(s.tick (s.t + q.after) q.waste q.choices).q.n=0):=Lib.hid (fun h=>by rw [HAct.out.1.ok.q.n,HAct.out.2.2.1 h];rfl)
     have HOk2:Hid ((s.tick (s.t + q.after) q.waste q.choices).ok 5000):=Lib.hid (HAct.out.1.ok.more (by omega))
     have HNx:Hid (nx≤f∧f≤3600):=Lib.hid ⟨HOr.out.le,by omega⟩
     clear hsa hst hsf H1 HOr HSm
     generalize s.t + q.after=tn at *
     go_wp2_with fail
     refine wp_region_chain (S:=(fun w'=>Hid (OwnE W1 b s w'))) 19 (by kernel_rfl) (by kernel_rfl) (by kernel_rfl) M0 ?_
     generalize w1.drew=wd at *
     simp only [List.size_toArray,List.length_cons,List.length_nil,Nat.reduceAdd,Array.replicate_succ,Array.replicate_zero,List.push_toArray,List.nil_append,List.cons_append]
     refine Chain.take (i:=0) (oi:=⟨some 75,_,_,_,_,_⟩) (v:=?v1) rfl (by kernel_rfl) (by kernel_rfl) (Or.inl ⟨by rfl,?y1⟩) ?rest1
     case y1=>intro w hSw;clear hSw;go_simp;(try with_reducible rfl)
     simp only [Act.put,List.setIfInBounds_toArray,List.set_cons_zero,List.set_cons_succ]
     refine Chain.take (i:=1) (oi:=⟨some 76,_,_,_,_,_⟩) (v:=?v2) rfl (by kernel_rfl) (by kernel_rfl) (Or.inl ⟨by rfl,?y2⟩) ?rest2
     case y2=>intro w hSw;clear hSw;go_simp;(try with_reducible rfl)
     simp only [Act.put,List.setIfInBounds_toArray,List.set_cons_zero,List.set_cons_succ]
     refine' Chain.call (i:=2) (oi:=⟨some 77,_,_,_,_,_⟩) _ _ rfl (by kernel_rfl) (by kernel_rfl) (by rfl) ?he3 (fun w hS=>(oe_Time W1 b s w hS.out).mono fun e w' q=>And.intro q.1 (q.2▸hS)) ?rest3
     case he3=>intro w;go_simp
     simp only [Act.put,List.setIfInBounds_toArray,List.set_cons_zero,List.set_cons_succ]
     refine Chain.take (i:=3) (oi:=⟨some 78,_,_,_,_,_⟩) (v:=?v4) rfl (by kernel_rfl) (by kernel_rfl) (Or.inl ⟨by rfl,?y4⟩) ?rest4
     case y4=>intro w hSw;clear hSw;go_simp;(try with_reducible rfl)
     simp only [Act.put,List.setIfInBounds_toArray,List.set_cons_zero,List.set_cons_succ]
     refine Chain.take (i:=4) (oi:=⟨some 79,_,_,_,_,_⟩) (v:=?v5) rfl (by kernel_rfl) (by kernel_rfl) (Or.inl ⟨by rfl,?y5⟩) ?rest5
     case y5=>intro w hSw;clear hSw;go_simp;(try with_reducible rfl)
     simp only [Act.put,List.setIfInBounds_toArray,List.set_cons_zero,List.set_cons_succ]
     refine Chain.take (i:=5) (oi:=⟨some 80,_,_,_,_,_⟩) (v:=?v6) rfl (by kernel_rfl) (by kernel_rfl) (Or.inl ⟨by rfl,?y6⟩) ?rest6
     case y6=>intro w hSw;clear hSw;go_simp;(try with_reducible rfl)
     simp only [Act.put,List.setIfInBounds_toArray,List.set_cons_zero,List.set_cons_succ]
     refine Chain.take (i:=6) (oi:=⟨some 81,_,_,_,_,_⟩) (v:=?v7) rfl (by kernel_rfl) (by kernel_rfl) (Or.inl ⟨by rfl,?y7⟩) ?rest7
     case y7=>intro w hSw;clear hSw;go_simp;(try with_reducible rfl)
     simp only [Act.put,List.setIfInBounds_toArray,List.set_cons_zero,List.set_cons_succ]
     refine Chain.take (i:=7) (oi:=⟨some 82,_,_,_,_,_⟩) (v:=?v8) rfl (by kernel_rfl) (by kernel_rfl) (Or.inl ⟨by rfl,?y8⟩) ?rest8
     case y8=>intro w hSw;go_simp;(try with_reducible rfl)
     simp only [Act.put,List.setIfInBounds_toArray,List.set_cons_zero,List.set_cons_succ]
     refine Chain.take (i:=8) (oi:=⟨some 83,_,_,_,_,_⟩) (v:=?v9) rfl (by kernel_rfl) (by kernel_rfl) (Or.inl ⟨by rfl,?y9⟩) ?rest9
     case y9=>intro w hSw;clear hSw;go_simp;(try with_reducible rfl)
     simp only [Act.put,List.setIfInBounds_toArray,List.set_cons_zero,List.set_cons_succ]
     refine Chain.take (i:=9) (oi:=⟨some 84,_,_,_,_,_⟩) (v:=?v10) rfl (by kernel_rfl) (by kernel_rfl) (Or.inl ⟨by rfl,?y10⟩) ?rest10
     case y10=>intro w hSw;clear hSw;go_simp;(try with_reducible rfl)
     simp only [Act.put,List.setIfInBounds_toArray,List.set_cons_zero,List.set_cons_succ]
     refine Chain.take (i:=10) (oi:=⟨some 85,_,_,_,_,_⟩) (v:=?v11) rfl (by kernel_rfl) (by kernel_rfl) (Or.inl ⟨by rfl,?y11⟩) ?rest11
     case y11=>intro w hSw;clear hSw;go_simp;(try with_reducible rfl)
     simp only [Act.put,List.setIfInBounds_toArray,List.set_cons_zero,List.set_cons_succ]
     refine Chain.take (i:=11) (oi:=⟨some 86,_,_,_,_,_⟩) (v:=?v12) rfl (by kernel_rfl) (by kernel_rfl) (Or.inl ⟨by rfl,?y12⟩) ?rest12
     case y12=>intro w hSw;clear hSw;go_simp;(try with_reducible rfl)
     simp only [Act.put,List.setIfInBounds_toArray,List.set_cons_zero,List.set_cons_succ]
     refine Chain.take (i:=12) (oi:=⟨some 87,_,_,_,_,_⟩) (v:=?v13) rfl (by kernel_rfl) (by kernel_rfl) (Or.inl ⟨by rfl,?y13⟩) ?rest13
     case y13=>intro w hSw;clear hSw;go_simp;(try with_reducible rfl)
     simp only [Act.put,List.setIfInBounds_toArray,List.set_cons_zero,List.set_cons_succ]
     refine Chain.take (i:=13) (oi:=⟨some 88,_,_,_,_,_⟩) (v:=?v14) rfl (by kernel_rfl) (by kernel_rfl) (Or.inl ⟨by rfl,?y14⟩) ?rest14
     case y14=>intro w hSw;go_simp;(try with_reducible rfl)
     simp only [Act.put,List.setIfInBounds_toArray,List.set_cons_zero,List.set_cons_succ]
     refine Chain.take (i:=14) (oi:=⟨some 89,_,_,_,_,_⟩) (v:=?v15) rfl (by kernel_rfl) (by kernel_rfl) (Or.inl ⟨by rfl,?y15⟩) ?rest15
     case y15=>intro w hSw;clear hSw;go_simp;(try with_reducible rfl)
     simp only [Act.put,List.setIfInBounds_toArray,List.set_cons_zero,List.set_cons_succ]
     refine Chain.take (i:=15) (oi:=⟨some 90,_,_,_,_,_⟩) (v:=?v16) rfl (by kernel_rfl) (by kernel_rfl) (Or.inl ⟨by rfl,?y16⟩) ?rest16
     case y16=>intro w hSw;clear hSw;go_simp;(try with_reducible rfl)
     simp only [Act.put,List.setIfInBounds_toArray,List.set_cons_zero,List.set_cons_succ]
     refine Chain.take (i:=16) (oi:=⟨some 91,_,_,_,_,_⟩) (v:=?v17) rfl (by kernel_rfl) (by kernel_rfl) (Or.inl ⟨by rfl,?y17⟩) ?rest17
     case y17=>intro w hSw;clear hSw;go_simp;(try with_reducible rfl)
     simp only [Act.put,List.setIfInBounds_toArray,List.set_cons_zero,List.set_cons_succ]
     refine Chain.take (i:=17) (oi:=⟨some 92,_,_,_,_,_⟩) (v:=?v18) rfl (by kernel_rfl) (by kernel_rfl) (Or.inl ⟨by rfl,?y18⟩) ?rest18
     case y18=>intro w hSw;clear hSw;go_simp;(try with_reducible rfl)
     simp only [Act.put,List.setIfInBounds_toArray,List.set_cons_zero,List.set_cons_succ]
     refine Chain.take (i:=18) (oi:=⟨some 93,_,_,_,_,_⟩) (v:=?v19) rfl (by kernel_rfl) (by kernel_rfl) (Or.inl ⟨by rfl,?y19⟩) ?rest19
     case y19=>intro w hSw;go_simp;(try with_reducible rfl)
     simp only [Act.put,List.setIfInBounds_toArray,List.set_cons_zero,List.set_cons_succ]
     refine Chain.last (by kernel_rfl) (fun w hSw=>?_)
     refine wpAnyH_ready (rs:=[19]) (by kernel_rfl) (by simp) ?_
     refine AllReadyH.cons (o:=⟨some 94,_,_,_,_,_⟩) rfl (fun K hK=>?_) AllReadyH.nil
     go_simp
     refine (HT.out _ hSw.out).mono ?_
     rintro e w2 ⟨v,rfl,V2,M2⟩
     clear hSw M0 HT ra rb rc
     go_wp2_with fail
     refine hK.out _ _ trivial (fun _=>?_)
     clear hK
     try simp only [List.setIfInBounds_toArray,List.set_cons_zero,List.set_cons_succ]
     refine wpAnyH_take (i:=20) (oi:=⟨some 74,_,_,_,_,_⟩) (v:=?v20) rfl (by kernel_rfl) (by kernel_rfl) (by kernel_rfl) (fun _ _ _ h=>h) (Or.inl ⟨by rfl,?y20⟩) trivial ?rest20
     case y20=>intro w hSw;clear hSw;go_simp;(try with_reducible rfl)
     simp only [Act.put,List.setIfInBounds_toArray,List.set_cons_zero,List.set_cons_succ]
     refine wpAnyH_take (i:=21) (oi:=⟨some 95,_,_,_,_,_⟩) (v:=?v21) rfl (by kernel_rfl) (by kernel_rfl) (by kernel_rfl) (fun _ _ _ h=>h) (Or.inl ⟨by rfl,?y21⟩) trivial ?rest21
     case y21=>intro w hSw;clear hSw;go_simp;(try with_reducible rfl)
     simp only [Act.put,List.setIfInBounds_toArray,List.set_cons_zero,List.set_cons_succ]
     refine wpAnyH_take (i:=22) (oi:=⟨some 96,_,_,_,_,_⟩) (v:=?v22) rfl (by kernel_rfl) (by kernel_rfl) (by kernel_rfl) (fun _ _ _ h=>h) (Or.inl ⟨by rfl,?y22⟩) trivial ?rest22
     case y22=>intro w hSw;clear hSw;go_simp;(try with_reducible rfl)
     simp only [Act.put,List.setIfInBounds_toArray,List.set_cons_zero,List.set_cons_succ]
     refine wpAnyH_take (i:=23) (oi:=⟨some 15,_,_,_,_,_⟩) (v:=?v23) rfl (by kernel_rfl) (by kernel_rfl) (by kernel_rfl) (fun _ _ _ h=>h) (Or.inl ⟨by rfl,?y23⟩) trivial ?rest23
     case y23=>intro w hSw;clear hSw;go_simp;(try with_reducible rfl)
     simp only [Act.put,List.setIfInBounds_toArray,List.set_cons_zero,List.set_cons_succ]
     refine wpAnyH_take (i:=24) (oi:=⟨some 16,_,_,_,_,_⟩) (v:=?v24) rfl (by kernel_rfl) (by kernel_rfl) (by kernel_rfl) (fun _ _ _ h=>h) (Or.inl ⟨by rfl,?y24⟩) trivial ?rest24
     case y24=>intro w hSw;clear hSw;go_simp;(try with_reducible rfl)
     simp only [Act.put,List.setIfInBounds_toArray,List.set_cons_zero,List.set_cons_succ]
     refine wpAnyH_done (by kernel_rfl) ?_ _
     skip
     have H2:=Lib.hid M2.out
     generalize s.tick tn q.waste q.choices=s2 at *
     generalize s.tickOut tn q.waste q.choices=po at *
     generalize s.k.w=was at *
     obtain ⟨ao,cpo,rfl,hc1,hc2,hit,_⟩:=V2.out.form
     have HIt:=Lib.hid hit
     have hpo:po.length≤9223372036854775807:=by unfold maxLen at hc2;omega
     clear V2 hit M2 hc1 hc2
     go_wp2_with fail
     go_loop [11,17] (fun nv i=>∃m:Nat,nv=.int .u64 ((aft nx (po.take m):Nat):Int)∧i=.int .i64 (m:Int)∧m≤po.length) (fun _ i=>po.length - (intOf i).toNat)
     case atStart=>exact ⟨0,rfl,rfl,Nat.zero_le _⟩
     case round=>
      obtain ⟨m,rfl,rfl,hm⟩:=hrel
      by_cases hmt:m < po.length
      ·obtain ⟨ad,rfl,_⟩:=HIt.out.cells (by omega)
       obtain ⟨g,offg,rfl,_,hc⟩:=its_pk HIt.out (by omega)
       obtain ⟨x,hx⟩:∃x,x=po.getD m Itm.z:=⟨_,rfl⟩
       have c0:=(hc m hmt x hx).1
       have hin:=inc_at HOt.out.1 m hmt x hx
       have hxm:x∈po:=by rw [hx];simp [hmt]
       have hxf:=HOt.out.2.1 x hxm
       have hnf:=HNx.out
       have m0:(0:Int)≤(m:Int):=by omega
       have m1:(m:Int) < (po.length:Int):=by omega
       have d1:decide (x.n < aft nx (po.take m))=false:=decide_eq_false (by omega)
       have d1':decide ((x.n:Int) < ((aft nx (po.take m):Nat):Int))=false:=decide_eq_false (by omega)
       have s1:(x.n:Int) + 1=((x.n + 1:Nat):Int):=by omega
       have s2:IntKind.u64.wrap ((x.n + 1:Nat):Int)=((x.n + 1:Nat):Int):=by rw [IntKind.wrap_u64];omega
       have HAf:Hid (aft nx (po.take (m + 1))=x.n + 1):=Lib.hid hin.2
       clear hc hx hin hxm hxf hnf
       generalize x.n + 1=xn at *
       generalize aft nx (po.take m)=an at *
       go_wp2_with fail
       go_round
       case rel=>exact ⟨m + 1,by rw [HAf.out],by go_num,by omega⟩
       case measure=>simp [intOf];omega
      ·obtain rfl:m=po.length:=by omega
       rw [List.take_length]
       clear hmt hm
       go_wp2_with fail
       refine (oe_Count W1 b s2 5000 w2 H2.out HOk2.out (Nat.le_refl _)).mono ?_
       rintro e w7 ⟨rfl,hb⟩
       have M7:=Lib.hid ((H2.out.to hb).to (al_be w7 (.cells #[.int .u64 (LS.told s2.came:Int),.int .u64 (s2.q.lost:Int),.int .u64 (s2.q.n:Int),.int .u64 (LS.told s2.served:Int),.int .u64 (LS.told (s2.served - s2.deliv):Int),.int .u64 (LS.told s2.deliv:Int)] 70)))
       have BC7:=Lib.hid (Blk.new w7 70 #[.int .u64 (LS.told s2.came:Int),.int .u64 (s2.q.lost:Int),.int .u64 (s2.q.n:Int),.int .u64 (LS.told s2.served:Int),.int .u64 (LS.told (s2.served - s2.deliv):Int),.int .u64 (LS.told s2.deliv:Int)])
       unfold LS.countV
       clear H2 hb HOk2
       go_wp2_with fail
       generalize w7.alloc (.cells #[.int .u64 (LS.told s2.came:Int),.int .u64 (s2.q.lost:Int),.int .u64 (s2.q.n:Int),.int .u64 (LS.told s2.served:Int),.int .u64 (LS.told (s2.served - s2.deliv):Int),.int .u64 (LS.told s2.deliv:Int)] 70)=w8 at *
       refine (oe_Tokens W1 b s2 w8 M7.out).mono ?_
       rintro e w9 ⟨rfl,hd⟩
       have M9:=Lib.hid (M7.out.to (hd.below _))
       have BC9:=Lib.hid (hd.blk BC7.out)
       clear M7 BC7 hd
       generalize w7.heap.size=z7 at *
       have hE:=HEn.out
       have hEa:=hE.a
       have hEb:=hE.b
       have hEc:=hE.c
       have hEd:=hE.d
       have hEm:=hE.m
       have hEt:=hE.t
       have hwl:=HWl.out
       have f0:=BC9.out.cell (i:=0) (v:=.int .u64 (LS.told s2.came:Int)) rfl
       have f1:=BC9.out.cell (i:=1) (v:=.int .u64 (s2.q.lost:Int)) rfl
       have f2:=BC9.out.cell (i:=2) (v:=.int .u64 (s2.q.n:Int)) rfl
       have f3:=BC9.out.cell (i:=3) (v:=.int .u64 (LS.told s2.served:Int)) rfl
       have f4:=BC9.out.cell (i:=4) (v:=.int .u64 (LS.told (s2.served - s2.deliv):Int)) rfl
       have f5:=BC9.out.cell (i:=5) (v:=.int .u64 (LS.told s2.deliv:Int)) rfl
       obtain ⟨p0,_,_,p3⟩:=path_r HBx.out _ M9
       have HTm:=Lib.hid (fun n=>(oe_Time W1 b s2 (w9.drewN n) (M9.out.to (Drawn.below ⟨n,rfl⟩ _))).mono fun e w' q=>(⟨q.1,q.2.symm⟩:e=.returned (.int .u64 (s2.t:Int))∧w'=w9.drewN n))
       clear hE HEn HWl BC9
       generalize LS.told s2.came=A at *
       generalize s2.q.lost=B at *
       generalize s2.q.n=C at *
       generalize LS.told s2.served=D at *
       generalize LS.told (s2.served - s2.deliv)=E at *
       generalize LS.told s2.deliv=F at *
       generalize s2.k.w=wv at *
       generalize s2.k.n=nv at *
       generalize s2.t=tv at *
       obtain ⟨y1,hy1⟩:∃y,y=1000000 * D:=⟨_,rfl⟩
       rw [← hy1] at hEd hEt
       obtain ⟨y3,hy3⟩:∃y,y=r * tv:=⟨_,rfl⟩
       rw [← hy3] at hEd
       have k1:(B:Int) + (C:Int)=((B + C:Nat):Int):=by omega
       have k1w:IntKind.u64.wrap ((B + C:Nat):Int)=((B + C:Nat):Int):=by rw [IntKind.wrap_u64];omega
       have k2:((B + C:Nat):Int) + (D:Int)=(A:Int):=by omega
       have k2w:IntKind.u64.wrap (A:Int)=(A:Int):=by rw [IntKind.wrap_u64];omega
       have k3:(E:Int) + (F:Int)=(D:Int):=by omega
       have k3w:IntKind.u64.wrap (D:Int)=(D:Int):=by rw [IntKind.wrap_u64];omega
       have k4:decide (b0 < C)=false:=decide_eq_false (by omega)
       have k4':decide ((b0:Int) < (C:Int))=false:=decide_eq_false (by omega)
       have k5:decide (wv < was)=false:=decide_eq_false (by omega)
       have k5':decide ((wv:Int) < (was:Int))=false:=decide_eq_false (by omega)
       have k6:(D:Int) * 1000000=(y1:Int):=by rw [hy1,Int.mul_comm];rfl
       have k6w:IntKind.u64.wrap (y1:Int)=(y1:Int):=by rw [IntKind.wrap_u64];omega
       have k7:(y1:Int) + (wv:Int)=((y1 + wv:Nat):Int):=by omega
       have k7w:IntKind.u64.wrap ((y1 + wv:Nat):Int)=((y1 + wv:Nat):Int):=by rw [IntKind.wrap_u64];omega
       have k8:((y1 + wv:Nat):Int) + (nv:Int)=(y3:Int):=by omega
       have k8w:IntKind.u64.wrap (y3:Int)=(y3:Int):=by rw [IntKind.wrap_u64];omega
       have k9:(r:Int) * (tv:Int)=(y3:Int):=by rw [hy3];rfl
       clear hy1 hy3 hEa hEb hEc hEd hEm hEt
       generalize B + C=BC at *
       generalize y1 + wv=y2 at *
       have hcase:(decide (was < wv)=false∧decide ((was:Int) < (wv:Int))=false)∨(decide (was < wv)=true∧decide ((was:Int) < (wv:Int))=true∧decide (0 < C)=false∧decide ((0:Int) < (C:Int))=false):=by
           by_cases hc:was < wv
           ·exact .inr ⟨decide_eq_true hc,decide_eq_true (by omega),decide_eq_false (by have:=HWs.out hc;omega),decide_eq_false (by have:=HWs.out hc;omega)⟩
           ·exact .inl ⟨decide_eq_false hc,decide_eq_false (by omega)⟩
       clear hwl HWs
       rcases hcase with ⟨q1,q2⟩ | ⟨q1,q2,q3,q4⟩
       all_goals
           go_wp2_with fail
           go_quiet (first | (go_at_call 23;exact Calls.quiet_of_same (HTm.out _)))
           have M10:=Lib.hid (M9.out.to (Drawn.below ⟨nq,rfl⟩ _))
           go_wp2_with fail
           go_roundw
           case rel=>exact ⟨k + 1,f,aft nx po,s2,rfl,rfl,by go_num,by omega,Lib.hid HAct.out.1,Lib.hid HOt.out.2.2,HAct.out.2.2.2.trans hroom,M10⟩
           case measure=>simp [intOf];omega
   | false=>
     rw [ht] at a0
     rw [LS.act_send ht] at HAct HEn
     rw [LS.more_send ht] at HAct
     have hfs:=fit_sizes HM1.out
     have HPk:=Lib.hid (oe_packets (W:=W1) (b:=b) (s:=s) (q:=q) f HA.out.s1 hfs (by omega))
     have HSd:=Lib.hid (fun (ao:Option Addr) (cap:Nat) (w:World) (h1:Below w1.heap.size w1 w) h2 h3=>oe_SendK W1 b s f (pkts f q.sizes) q.sizes.length (pkts_len _ _) ao cap w1 w H1.out h1 HSm.out.ok h2 h3 (pkts_size (fun x hx=>HA.out.s1.mx x hx)) (by rw [pkts_len];omega))
     have HOt:Hid (LS.Ord (s.sends (pkts f q.sizes)) (f + q.sizes.length) nx):=Lib.hid (by
      have:=LS.Ord.sends (pkts f q.sizes) s f nx HOr.out (LS.num_pkts _ _)
      rw [pkts_len] at this
      exact this)
     have HWl:=Lib.hid HAct.out.2.1
     have HWs:Hid (s.k.w < (s.sends (pkts f q.sizes)).k.w→(s.sends (pkts f q.sizes)).q.n=0):=Lib.hid (fun h=>by rw [HAct.out.1.ok.q.n,HAct.out.2.2.1 h];rfl)
     have HOk2:Hid ((s.sends (pkts f q.sizes)).ok 5000):=Lib.hid (HAct.out.1.ok.more (by omega))
     have hs1:(f:Int) + (q.sizes.length:Int)=((f + q.sizes.length:Nat):Int):=by omega
     have hs2:IntKind.i64.wrap ((f + q.sizes.length:Nat):Int)=((f + q.sizes.length:Nat):Int):=by rw [IntKind.wrap_i64];omega
     clear HOr HSm hsa hst hsf hfs
     generalize s.kept (pkts f q.sizes)=kp at *
     generalize s.sends (pkts f q.sizes)=s2 at *
     generalize f + q.sizes.length=fq at *
     generalize s.k.w=was at *
     go_wp2_with fail
     refine (HPk.out _ H1.out).mono ?_
     rintro e w5 ⟨ao,cp,rfl,hi,hg,hb⟩
     have HS0:=Lib.hid (HSd.out ao cp w5 hb.out hi.out hg.out)
     clear hi hg hb HSd HPk H1
     go_wp2_with fail
     refine HS0.out.mono ?_
     rintro e w6 ⟨rfl,H2,_⟩
     clear HS0 hs1 hs2
     go_wp2_with fail
     refine (oe_Count W1 b s2 5000 w6 H2.out HOk2.out (Nat.le_refl _)).mono ?_
     rintro e w7 ⟨rfl,hb⟩
     have M7:=Lib.hid ((H2.out.to hb).to (al_be w7 (.cells #[.int .u64 (LS.told s2.came:Int),.int .u64 (s2.q.lost:Int),.int .u64 (s2.q.n:Int),.int .u64 (LS.told s2.served:Int),.int .u64 (LS.told (s2.served - s2.deliv):Int),.int .u64 (LS.told s2.deliv:Int)] 70)))
     have BC7:=Lib.hid (Blk.new w7 70 #[.int .u64 (LS.told s2.came:Int),.int .u64 (s2.q.lost:Int),.int .u64 (s2.q.n:Int),.int .u64 (LS.told s2.served:Int),.int .u64 (LS.told (s2.served - s2.deliv):Int),.int .u64 (LS.told s2.deliv:Int)])
     unfold LS.countV
     clear H2 hb HOk2
     go_wp2_with fail
     generalize w7.alloc (.cells #[.int .u64 (LS.told s2.came:Int),.int .u64 (s2.q.lost:Int),.int .u64 (s2.q.n:Int),.int .u64 (LS.told s2.served:Int),.int .u64 (LS.told (s2.served - s2.deliv):Int),.int .u64 (LS.told s2.deliv:Int)] 70)=w8 at *
     refine (oe_Tokens W1 b s2 w8 M7.out).mono ?_
     rintro e w9 ⟨rfl,hd⟩
     have M9:=Lib.hid (M7.out.to (hd.below _))
     have BC9:=Lib.hid (hd.blk BC7.out)
     clear M7 BC7 hd
     generalize w7.heap.size=z7 at *
     have hE:=HEn.out
     have hEa:=hE.a
     have hEb:=hE.b
     have hEc:=hE.c
     have hEd:=hE.d
     have hEm:=hE.m
     have hEt:=hE.t
     have hwl:=HWl.out
     have f0:=BC9.out.cell (i:=0) (v:=.int .u64 (LS.told s2.came:Int)) rfl
     have f1:=BC9.out.cell (i:=1) (v:=.int .u64 (s2.q.lost:Int)) rfl
     have f2:=BC9.out.cell (i:=2) (v:=.int .u64 (s2.q.n:Int)) rfl
     have f3:=BC9.out.cell (i:=3) (v:=.int .u64 (LS.told s2.served:Int)) rfl
     have f4:=BC9.out.cell (i:=4) (v:=.int .u64 (LS.told (s2.served - s2.deliv):Int)) rfl
     have f5:=BC9.out.cell (i:=5) (v:=.int .u64 (LS.told s2.deliv:Int)) rfl
     obtain ⟨p0,_,_,p3⟩:=path_r HBx.out _ M9
     have HTm:=Lib.hid (fun n=>(oe_Time W1 b s2 (w9.drewN n) (M9.out.to (Drawn.below ⟨n,rfl⟩ _))).mono fun e w' q=>(⟨q.1,q.2.symm⟩:e=.returned (.int .u64 (s2.t:Int))∧w'=w9.drewN n))
     clear hE HEn HWl BC9
     generalize LS.told s2.came=A at *
     generalize s2.q.lost=B at *
     generalize s2.q.n=C at *
     generalize LS.told s2.served=D at *
     generalize LS.told (s2.served - s2.deliv)=E at *
     generalize LS.told s2.deliv=F at *
     generalize s2.k.w=wv at *
     generalize s2.k.n=nv at *
     generalize s2.t=tv at *
     obtain ⟨y1,hy1⟩:∃y,y=1000000 * D:=⟨_,rfl⟩
     rw [← hy1] at hEd hEt
     obtain ⟨y3,hy3⟩:∃y,y=r * tv:=⟨_,rfl⟩
     rw [← hy3] at hEd
     have k1:(B:Int) + (C:Int)=((B + C:Nat):Int):=by omega
     have k1w:IntKind.u64.wrap ((B + C:Nat):Int)=((B + C:Nat):Int):=by rw [IntKind.wrap_u64];omega
     have k2:((B + C:Nat):Int) + (D:Int)=(A:Int):=by omega
     have k2w:IntKind.u64.wrap (A:Int)=(A:Int):=by rw [IntKind.wrap_u64];omega
     have k3:(E:Int) + (F:Int)=(D:Int):=by omega
     have k3w:IntKind.u64.wrap (D:Int)=(D:Int):=by rw [IntKind.wrap_u64];omega
     have k4:decide (b0 < C)=false:=decide_eq_false (by omega)
     have k4':decide ((b0:Int) < (C:Int))=false:=decide_eq_false (by omega)
     have k5:decide (wv < was)=false:=decide_eq_false (by omega)
     have k5':decide ((wv:Int) < (was:Int))=false:=decide_eq_false (by omega)
     have k6:(D:Int) * 1000000=(y1:Int):=by rw [hy1,Int.mul_comm];rfl
     have k6w:IntKind.u64.wrap (y1:Int)=(y1:Int):=by rw [IntKind.wrap_u64];omega
     have k7:(y1:Int) + (wv:Int)=((y1 + wv:Nat):Int):=by omega
     have k7w:IntKind.u64.wrap ((y1 + wv:Nat):Int)=((y1 + wv:Nat):Int):=by rw [IntKind.wrap_u64];omega
     have k8:((y1 + wv:Nat):Int) + (nv:Int)=(y3:Int):=by omega
     have k8w:IntKind.u64.wrap (y3:Int)=(y3:Int):=by rw [IntKind.wrap_u64];omega
     have k9:(r:Int) * (tv:Int)=(y3:Int):=by rw [hy3];rfl
     clear hy1 hy3 hEa hEb hEc hEd hEm hEt
     generalize B + C=BC at *
     generalize y1 + wv=y2 at *
     have hcase:(decide (was < wv)=false∧decide ((was:Int) < (wv:Int))=false)∨(decide (was < wv)=true∧decide ((was:Int) < (wv:Int))=true∧decide (0 < C)=false∧decide ((0:Int) < (C:Int))=false):=by
      by_cases hc:was < wv
      ·exact .inr ⟨decide_eq_true hc,decide_eq_true (by omega),decide_eq_false (by have:=HWs.out hc;omega),decide_eq_false (by have:=HWs.out hc;omega)⟩
      ·exact .inl ⟨decide_eq_false hc,decide_eq_false (by omega)⟩
     clear hwl HWs
     rcases hcase with ⟨q1,q2⟩ | ⟨q1,q2,q3,q4⟩
     all_goals
      go_wp2_with fail
      go_quiet (first | (go_at_call 23;exact Calls.quiet_of_same (HTm.out _)))
      have M10:=Lib.hid (M9.out.to (Drawn.below ⟨nq,rfl⟩ _))
      go_wp2_with fail
      go_roundw
      case rel=>exact ⟨k + 1,fq,nx,s2,rfl,rfl,by go_num,by omega,Lib.hid HAct.out.1,HOt,HAct.out.2.2.2.trans hroom,M10⟩
      case measure=>simp [intOf];omega
  ·obtain rfl:k=l.length:=by omega
   have HB0:=Lib.hid (HBel.out.trans (H.out.bel.mono HBel.out.size))
   clear HSm HOr hroom HFit HSml hk hlt
   go_wp2_with fail
   refine (ln_Tick wr 0 0 _).mono ?_
   rintro e w5 ⟨rfl,rfl⟩
   go_wp2_with fail
   refine (ln_Tokens wr).mono ?_
   rintro e w5 ⟨rfl,rfl⟩
   go_wp2_with fail
   refine (ln_Next wr).mono ?_
   rintro e w5 ⟨rfl,rfl⟩
   go_wp2_with fail
   refine (alive21 wr).mono ?_
   rintro e w6 ⟨rfl,hb⟩
   have HB6:=Lib.hid (HB0.out.trans (hb.mono HB0.out.size))
   clear hb HB0 H
   go_wp2_with fail
   refine (ln_Send _ _).mono ?_
   rintro e w7 ⟨rfl,rfl⟩
   go_wp2_with fail
   refine (ln_Time _).mono ?_
   rintro e w7 ⟨rfl,rfl⟩
   have HB7:=Lib.hid (bel_to HB6.out (al_be w6 (.cells #[.int .u64 0,.int .u64 1,.int .u64 0,.int .u64 0,.int .u64 0,.int .u64 0,.bool false] 68)) HB6.out.size)
   go_wp2_with fail
   refine (ln_Count _).mono ?_
   rintro e w8 ⟨rfl,hb⟩
   have HB8:=Lib.hid (bel_to HB7.out hb HB7.out.size)
   clear hb HB7 HB6
   go_wp2_with fail
   go_ret
   exact ⟨rfl,HB8.out⟩
end Go.Proofs.Ytgpmnhhcjccofaa
