/- 9 texts put together: what each one says stands ahead of it. -/
import Derived.Test.YtaffjfajjpgjpaaKLinkPlays22
import Derived.Deep.SlicePairs
import Derived.Deep.Fields
import Derived.ProofKit
import Derived.OpenShut
import Derived.Deep.AppendLies
import Derived.Maps.AppendAt
import Derived.OwnWalk
import Derived.Test.YtaffjfajjpgjpaaKLinkPlays23
import Derived.Test.YtaffjfajjpgjpaaKLinkPlays19
set_option linter.unusedVariables false
namespace Go.Proofs.Ytaffjfajjpgjpaa
open Go.ChangeShapes Go.WideShapes Go.ChangeAt Go.RowKit
structure InNus (w:World) (v:Option Addr) (n cap:Nat) (l:List Nat):Prop where
 len:l.length=n
 le:n≤cap
 big:cap≤9223372036854775807
 nus:Nus w v l
 mx:∀x∈l,x≤18446744073709551615
theorem InNus.lt {w:World} {v:Option Addr} {len cap:Nat} {l:List Nat} (h:InNus w v len cap l) (hp:0 < l.length):∀a,v=some a→a.block < w.heap.size:=by
 obtain ⟨b,off,e,hb,_⟩:=h.nus hp
 intro a ha
 rw [e] at ha
 injection ha with ha
 subst ha
 exact hb
theorem InNus.keep {w w':World} {v:Option Addr} {len cap:Nat} {l:List Nat} (h:InNus w v len cap l) (k:Below w.heap.size w w'):InNus w' v len cap l:=⟨h.len,h.le,h.big,h.nus.keep k,h.mx⟩
theorem in_nus {H:Type} {enc:TypeId × Value→H} {w:World} {fuel:Nat} {spare:Nat→Bool} {held:Bool} {v:Option Addr} {len cap:Nat} {x:DataW H × List MemPlace}
  (h:DataW.trod enc Try.prog w 0 spare held fuel 36 [.slice v len cap]=some x):∃l,InNus w v len cap l:=by
 rcases Go.Deep.open_slice Try.underlying36 h with ⟨hcs,_⟩ | ⟨a,len',cap',m,n,D,Pl,hcs,_,hl,hm,hmm,_,hi⟩
 ·simp only [List.cons.injEq,Value.slice.injEq,and_true] at hcs
  obtain ⟨rfl,rfl,rfl⟩:=hcs
  exact ⟨[],rfl,by omega,by omega,Nus.nil _ _,fun r hr=>by cases hr⟩
 ·simp only [List.cons.injEq,Value.slice.injEq,and_true] at hcs
  obtain ⟨rfl,rfl,rfl⟩:=hcs
  have hlm:len≤m:=by rw [hmm];split <;> omega
  have ce:Try.prog.cellsOf 22=1:=by kernel_rfl
  unfold maxLen at hm
  have each:∀i,i < len→∃q:Nat,w.cell? (a.add i)=some (.int .u64 (q:Int))∧q≤18446744073709551615:=by
   intro i hlt
   obtain ⟨cs',h1,h2⟩:=hi i (by omega)
   rw [ce,Nat.mul_one] at h1
   obtain ⟨_,hlen,hcell⟩:=World.cells?_some h1
   match cs',hlen with
   | [v0],_=>
     obtain ⟨z0,hz0,_,hw0⟩:=DataW.trod_int Try.underlying22 h2
     simp only [List.cons.injEq,and_true] at hz0
     subst hz0
     obtain ⟨b0,b0'⟩:=bounds_u64 hw0
     have e0:=hcell 0 (by omega)
     rw [Go.Deep.add_add] at e0
     exact ⟨z0.toNat,by rw [Int.toNat_of_nonneg b0];simpa using e0,by omega⟩
  obtain ⟨q,hq⟩:=Go.Deep.choose_lt each
  obtain ⟨b,off,spot⟩:=a
  refine ⟨(List.range len).map q,by simp,hl,by omega,fun hpos=>?_,fun r hr=>?_⟩
  ·have hpos':0 < len:=by simpa using hpos
   have h0:=(hq 0 hpos').1
   have hs:spot=none:=by simpa [Addr.add] using World.cell?_spot h0
   subst hs
   refine ⟨b,off,rfl,by have:=World.block_lt_of_cell? _ _ h0;simpa [Addr.add] using this,fun i hi=>?_⟩
   have hi':i < len:=by simpa using hi
   have:=(hq i hi').1
   rw [Go.WideShapes.add_plain] at this
   rw [this]
   simp [List.getD_eq_getElem?_getD,hi']
  ·obtain ⟨i,hi,rfl⟩:=List.mem_map.1 hr
   exact (hq i (by simpa using hi)).2
structure Act21 where
 tick:Bool
 p1:Option Addr
 c1:Nat
 sizes:List Nat
 after:Nat
 waste:Nat
 p2:Option Addr
 c2:Nat
 choices:List Nat
instance:Inhabited Act21:=⟨⟨false,none,0,[],0,0,none,0,[]⟩⟩
structure Act21At (w:World) (b o:Nat) (q:Act21):Prop where
 k0:w.cell? ⟨b,o,none⟩=some (.bool q.tick)
 k1:w.cell? ⟨b,o + 1,none⟩=some (.slice q.p1 q.sizes.length q.c1)
 k2:w.cell? ⟨b,o + 2,none⟩=some (.int .u64 (q.after:Int))
 k3:w.cell? ⟨b,o + 3,none⟩=some (.int .u64 (q.waste:Int))
 k4:w.cell? ⟨b,o + 4,none⟩=some (.slice q.p2 q.choices.length q.c2)
 s1:InNus w q.p1 q.sizes.length q.c1 q.sizes
 b2:q.after≤18446744073709551615
 b3:q.waste≤18446744073709551615
 s4:InNus w q.p2 q.choices.length q.c2 q.choices
def InAct21 (w:World) (v:Option Addr) (l:List Act21) (b off:Nat):Prop:=
 l.length≤9223372036854775807∧(0 < l.length→v=some ⟨b,off,none⟩∧b < w.heap.size)∧∀i,i < l.length→Act21At w b (off + i * 5) (l.getD i default)
theorem Act21At.keep {w w':World} {b o:Nat} {q:Act21} (h:Act21At w b o q) (hb:b < w.heap.size) (k:Below w.heap.size w w'):Act21At w' b o q:=
 ⟨(k.cell (p:=⟨b,_,none⟩) hb).trans h.k0,(k.cell (p:=⟨b,_,none⟩) hb).trans h.k1,(k.cell (p:=⟨b,_,none⟩) hb).trans h.k2,(k.cell (p:=⟨b,_,none⟩) hb).trans h.k3,(k.cell (p:=⟨b,_,none⟩) hb).trans h.k4,h.s1.keep k,h.b2,h.b3,h.s4.keep k⟩
theorem InAct21.keep {w w':World} {v:Option Addr} {l:List Act21} {b off:Nat} (h:InAct21 w v l b off) (k:Below w.heap.size w w'):InAct21 w' v l b off:=
 ⟨h.1,fun hp=>⟨(h.2.1 hp).1,Nat.lt_of_lt_of_le (h.2.1 hp).2 k.size⟩,fun i hi=>(h.2.2 i hi).keep (h.2.1 (by omega)).2 k⟩
theorem any_nus {H:Type} {enc:TypeId × Value→H} {w:World} {fuel:Nat} {spare:Nat→Bool} {held:Bool} {v:Value} {x:DataW H × List MemPlace}
  (h:DataW.trod enc Try.prog w 0 spare held fuel 36 [v]=some x):∃p n c l,v=.slice p n c∧InNus w p n c l:=by
 rcases Go.Deep.open_slice Try.underlying36 h with ⟨hcs,_⟩ | ⟨a',len',cap',m',n',D',Pl',hcs,_⟩
 ·simp only [List.cons.injEq,and_true] at hcs
  subst hcs
  obtain ⟨l,hl⟩:=in_nus h
  exact ⟨_,_,_,l,rfl,hl⟩
 ·simp only [List.cons.injEq,and_true] at hcs
  subst hcs
  obtain ⟨l,hl⟩:=in_nus h
  exact ⟨_,_,_,l,rfl,hl⟩
set_option maxRecDepth 100000 in
theorem in_act21 {H:Type} {enc:TypeId × Value→H} {w:World} {fuel:Nat} {spare:Nat→Bool} {held:Bool} {v:Option Addr} {len cap:Nat} {x:DataW H × List MemPlace}
  (h:DataW.trod enc Try.prog w 0 spare held fuel 25 [.slice v len cap]=some x):∃l b off,l.length=len∧InAct21 w v l b off:=by
 rcases Go.Deep.open_slice Try.underlying25 h with ⟨hcs,_⟩ | ⟨a,len',cap',m,n,D,Pl,hcs,_,hl,hm,hmm,_,hi⟩
 ·simp only [List.cons.injEq,Value.slice.injEq,and_true] at hcs
  obtain ⟨rfl,rfl,rfl⟩:=hcs
  exact ⟨[],0,0,rfl,by simp,fun h=>absurd h (by simp),fun i hi=>absurd hi (by simp)⟩
 ·simp only [List.cons.injEq,Value.slice.injEq,and_true] at hcs
  obtain ⟨rfl,rfl,rfl⟩:=hcs
  have hlm:len≤m:=by rw [hmm];split <;> omega
  have ce:Try.prog.cellsOf 38=5:=by kernel_rfl
  have c0:Try.prog.cellsOf 4=1:=by kernel_rfl
  have c1:Try.prog.cellsOf 22=1:=by kernel_rfl
  have c2:Try.prog.cellsOf 36=1:=by kernel_rfl
  unfold maxLen at hm
  obtain ⟨b,off,spot⟩:=a
  have hs0:0 < len→spot=none:=by
   intro hpos
   obtain ⟨cs',h1,_⟩:=hi 0 (by omega)
   rw [ce] at h1
   obtain ⟨_,hlen,hcell⟩:=World.cells?_some h1
   match cs',hlen with
   | [v0,v1,v2,v3,v4],_=>
     have e0:=hcell 0 (by omega)
     rw [Go.Deep.add_add] at e0
     simpa [Addr.add] using World.cell?_spot e0
  have each:∀i,i < len→∃q:Act21,spot=none∧b < w.heap.size∧Act21At w b (off + i * 5) q:=by
   intro i hlt
   obtain ⟨cs',h1,h2⟩:=hi i (by omega)
   rw [ce] at h1
   obtain ⟨_,hlen,hcell⟩:=World.cells?_some h1
   obtain ⟨xs,k,_,_,_,hxl,hf⟩:=DataW.trod_struct Try.underlying38 h2
   match cs',hlen with
   | [v0,v1,v2,v3,v4],_=>
     have g0:=hf 0 _ rfl
     have g1:=hf 1 _ rfl
     have g2:=hf 2 _ rfl
     have g3:=hf 3 _ rfl
     have g4:=hf 4 _ rfl
     have hx0:xs[0]? =some (xs[0]'(by rw [hxl];decide)):=List.getElem?_eq_getElem _
     have hx1:xs[1]? =some (xs[1]'(by rw [hxl];decide)):=List.getElem?_eq_getElem _
     have hx2:xs[2]? =some (xs[2]'(by rw [hxl];decide)):=List.getElem?_eq_getElem _
     have hx3:xs[3]? =some (xs[3]'(by rw [hxl];decide)):=List.getElem?_eq_getElem _
     have hx4:xs[4]? =some (xs[4]'(by rw [hxl];decide)):=List.getElem?_eq_getElem _
     rw [hx0] at g0
     rw [hx1] at g1
     rw [hx2] at g2
     rw [hx3] at g3
     rw [hx4] at g4
     simp [c0,c1,c2] at g0 g1 g2 g3 g4
     obtain ⟨z0,hz0,_⟩:=DataW.trod_bool Try.underlying4 g0
     obtain ⟨p1,n1,d1,l1,rfl,hl1⟩:=any_nus g1
     obtain ⟨z2,hz2,_,hw2⟩:=DataW.trod_int Try.underlying22 g2
     obtain ⟨z3,hz3,_,hw3⟩:=DataW.trod_int Try.underlying22 g3
     obtain ⟨p4,n4,d4,l4,rfl,hl4⟩:=any_nus g4
     simp only [List.cons.injEq,and_true] at hz0 hz2 hz3
     subst hz0 hz2 hz3
     have n1':=hl1.len
     have n4':=hl4.len
     subst n1' n4'
     have e0:=hcell 0 (by omega)
     have e1:=hcell 1 (by omega)
     have e2:=hcell 2 (by omega)
     have e3:=hcell 3 (by omega)
     have e4:=hcell 4 (by omega)
     rw [Go.Deep.add_add] at e0 e1 e2 e3 e4
     have hs:=hs0 (by omega)
     subst hs
     rw [Go.WideShapes.add_plain] at e0 e1 e2 e3 e4
     obtain ⟨b2,b2'⟩:=bounds_u64 hw2
     obtain ⟨b3,b3'⟩:=bounds_u64 hw3
     refine ⟨⟨z0,p1,d1,l1,z2.toNat,z3.toNat,p4,d4,l4⟩,rfl,World.block_lt_of_cell? _ _ e0,⟨?_,?_,?_,?_,?_,hl1,by dsimp;omega,by dsimp;omega,hl4⟩⟩
     ·dsimp;simpa using e0
     ·dsimp;simpa [Nat.add_assoc] using e1
     ·dsimp;rw [Int.toNat_of_nonneg b2];simpa [Nat.add_assoc] using e2
     ·dsimp;rw [Int.toNat_of_nonneg b3];simpa [Nat.add_assoc] using e3
     ·dsimp;simpa [Nat.add_assoc] using e4
  obtain ⟨q,hq⟩:=Go.Deep.choose_lt each
  refine ⟨(List.range len).map q,b,off,by simp,by simp;omega,fun hpos=>?_,fun i hlt=>?_⟩
  ·have hpos':0 < len:=by simpa using hpos
   obtain ⟨rfl,hb,_⟩:=hq 0 hpos'
   exact ⟨rfl,hb⟩
  ·have hlt':i < len:=by simpa using hlt
   obtain ⟨_,_,h3⟩:=hq i hlt'
   have e:((List.range len).map q).getD i default=q i:=by simp [List.getD_eq_getElem?_getD,hlt']
   rw [e]
   exact h3
set_option maxRecDepth 100000 in
theorem in_path {H:Type} {enc:TypeId × Value→H} {w:World} {base b0:Nat} {r:Reach} {spare:Nat→Bool} {held:Bool} {v:Value} {d:DataW H} {p:List MemPlace}
  (hv:Value.okWide Try.prog w r b0 24 v) (h:DataW.Trod enc Try.prog w base spare held 24 v d p):∃x0 x1 x2 x3:Nat,(x0≤18446744073709551615∧x1≤18446744073709551615∧x2≤18446744073709551615∧x3≤18446744073709551615)∧v=.agg #[.int .u64 (x0:Int),.int .u64 (x1:Int),.int .u64 (x2:Int),.int .u64 (x3:Int)]:=by
 have ce:Try.prog.cellsOf 24=4:=by kernel_rfl
 have c0:Try.prog.cellsOf 22=1:=by kernel_rfl
 obtain ⟨cs,rfl,hsz⟩:=okWide_struct Try.underlying24 hv
 rw [ce] at hsz
 obtain ⟨l⟩:=cs
 obtain ⟨fuel,ht⟩:=h
 obtain ⟨xs,n,_,_,_,hlen,hg⟩:=DataW.trod_struct Try.underlying24 ht
 match l,hsz with
 | [v0,v1,v2,v3],_=>
   have g0:=hg 0 _ rfl
   have g1:=hg 1 _ rfl
   have g2:=hg 2 _ rfl
   have g3:=hg 3 _ rfl
   have hx0:xs[0]? =some (xs[0]'(by rw [hlen];decide)):=List.getElem?_eq_getElem _
   have hx1:xs[1]? =some (xs[1]'(by rw [hlen];decide)):=List.getElem?_eq_getElem _
   have hx2:xs[2]? =some (xs[2]'(by rw [hlen];decide)):=List.getElem?_eq_getElem _
   have hx3:xs[3]? =some (xs[3]'(by rw [hlen];decide)):=List.getElem?_eq_getElem _
   rw [hx0] at g0
   rw [hx1] at g1
   rw [hx2] at g2
   rw [hx3] at g3
   simp [c0,Value.cells] at g0 g1 g2 g3
   obtain ⟨z0,hz0,_,hw0⟩:=DataW.trod_int Try.underlying22 g0
   obtain ⟨z1,hz1,_,hw1⟩:=DataW.trod_int Try.underlying22 g1
   obtain ⟨z2,hz2,_,hw2⟩:=DataW.trod_int Try.underlying22 g2
   obtain ⟨z3,hz3,_,hw3⟩:=DataW.trod_int Try.underlying22 g3
   simp only [List.cons.injEq,and_true] at hz0 hz1 hz2 hz3
   subst hz0 hz1 hz2 hz3
   obtain ⟨a0,b0⟩:=bounds_u64 hw0
   obtain ⟨a1,b1⟩:=bounds_u64 hw1
   obtain ⟨a2,b2⟩:=bounds_u64 hw2
   obtain ⟨a3,b3⟩:=bounds_u64 hw3
   obtain ⟨z0,rfl⟩:=Int.eq_ofNat_of_zero_le a0
   obtain ⟨z1,rfl⟩:=Int.eq_ofNat_of_zero_le a1
   obtain ⟨z2,rfl⟩:=Int.eq_ofNat_of_zero_le a2
   obtain ⟨z3,rfl⟩:=Int.eq_ofNat_of_zero_le a3
   exact ⟨z0,z1,z2,z3,⟨by omega,by omega,by omega,by omega⟩,rfl⟩
end Go.Proofs.Ytaffjfajjpgjpaa

set_option linter.unusedVariables false
namespace Go.Proofs.Ytaffjfajjpgjpaa
open Go.RowKit
def fit1 (q:Act21):Bool:=decide (q.sizes.length≤60) && decide (q.choices.length≤60)
def fits21 (l:List Act21):Bool:=decide (l.length≤60) && l.all fit1
theorem getD_mem {l:List Act21} {k:Nat} (h:k < l.length):l.getD k default∈l:=by simp [List.getD_eq_getElem?_getD,h]
theorem all_of {l:List Act21} {f:Act21→Bool} (h:∀j,j < l.length→f (l.getD j default)=true):l.all f=true:=by
 rw [List.all_eq_true]
 intro q hq
 obtain ⟨i,hi,rfl⟩:=List.mem_iff_getElem.1 hq
 have:=h i hi
 simpa [List.getD_eq_getElem?_getD,hi] using this
set_option maxHeartbeats 800000 in
theorem fits21_any (l:List Act21) (v:Option Addr) (c b off:Nat) (W:World) (h:InAct21 W v l b off):
  Calls Try.prog 4 #[.slice v l.length c] W fun e w'=>e=.returned (.bool (fits21 l))∧w'=W:=by
 obtain ⟨h1,h2,h3⟩:=h
 have H3:=Lib.hid h3
 have H2:=Lib.hid h2
 clear h3 h2
 go_enter Try.func4,Try.ntmps4
 go_wp2
 go_loop [3] (fun i=>∃k:Nat,i=.int .i64 (k:Int)∧k≤l.length∧k≤61∧∀j,j < k→fit1 (l.getD j default)=true) (fun i=>61 - (intOf i).toNat)
 case atStart=>exact ⟨0,rfl,Nat.zero_le _,by omega,fun j hj=>absurd hj (by omega)⟩
 case round=>
  obtain ⟨k,rfl,hk,hk1,hall⟩:=hrel
  have HA:=Lib.hid hall
  clear hall
  by_cases hlt:k < l.length
  ·by_cases hk2:k≤60
   ·obtain ⟨rfl,hb⟩:=H2.out (by omega)
    have A:=H3.out k hlt
    have a1:=A.k1
    have a4:=A.k4
    have i0:(0:Int)≤(k:Int):=by omega
    have i1:(k:Int) < (l.length:Int):=by omega
    have hd1:decide ((k:Int)≤60)=true:=by simp;omega
    have HM:=Lib.hid (getD_mem hlt)
    clear A
    obtain ⟨q,hq⟩:∃q,q=l.getD k default:=⟨_,rfl⟩
    rw [← hq] at a1 a4 HM
    have HQ:=Lib.hid hq
    clear hq
    have HF:Hid (fit1 q=false→fits21 l=false):=Lib.hid (fun h=>by
     unfold fits21
     rw [Bool.and_eq_false_iff]
     right
     rw [List.all_eq_false]
     exact ⟨q,HM.out,by rw [h];decide⟩)
    by_cases hl:q.sizes.length≤60
    ·by_cases hl2:q.choices.length≤60
     ·have HL:Hid (fit1 q=true):=Lib.hid (by unfold fit1;rw [decide_eq_true hl,decide_eq_true hl2];rfl)
      generalize q.sizes.length=n at *
      generalize q.choices.length=m at *
      have hd2:decide ((60:Int) < (n:Int))=false:=by simp;omega
      have hd3:decide ((60:Int) < (m:Int))=false:=by simp;omega
      go_wp2
      go_round
      case rel=>exact ⟨k + 1,by go_num,by omega,by omega,fun j hj=>by
       by_cases e:j=k
       ·subst e;rw [← HQ.out];exact HL.out
       ·exact HA.out j (by omega)⟩
      case measure=>simp [intOf];omega
     ·have HL:Hid (fit1 q=false):=Lib.hid (by unfold fit1;rw [decide_eq_false hl2,Bool.and_false])
      generalize q.sizes.length=n at *
      generalize q.choices.length=m at *
      have hd2:decide ((60:Int) < (n:Int))=false:=by simp;omega
      have hd3:decide ((60:Int) < (m:Int))=true:=by simp;omega
      go_wp2
      go_ret
      exact ⟨by rw [HF.out HL.out];rfl,rfl⟩
    ·have HL:Hid (fit1 q=false):=Lib.hid (by unfold fit1;rw [decide_eq_false hl,Bool.false_and])
     generalize q.sizes.length=n at *
     have hd2:decide ((60:Int) < (n:Int))=true:=by simp;omega
     go_wp2
     go_ret
     exact ⟨by rw [HF.out HL.out];rfl,rfl⟩
   ·have hd1:decide ((k:Int)≤60)=false:=by simp;omega
    have hd2:decide ((l.length:Int)≤60)=false:=by simp;omega
    have HF:Hid (fits21 l=false):=Lib.hid (by
     unfold fits21
     rw [Bool.and_eq_false_iff]
     left
     simp;omega)
    go_wp2
    go_ret
    exact ⟨by rw [HF.out];rfl,rfl⟩
  ·obtain rfl:k=l.length:=by omega
   have HF:Hid (fits21 l=decide ((l.length:Int)≤60)):=Lib.hid (by
    unfold fits21
    rw [all_of HA.out,Bool.and_true]
    exact decide_eq_decide.2 (by omega))
   go_wp2
   go_ret
   exact ⟨by rw [HF.out];rfl,rfl⟩
end Go.Proofs.Ytaffjfajjpgjpaa

set_option linter.unusedVariables false
namespace Go.Proofs.Ytaffjfajjpgjpaa
open Go.RowKit
theorem rf_Right (r d j b:Nat) (W:World):Calls Try.prog 9 #[.agg #[.int .u64 (r:Int),.int .u64 (d:Int),.int .u64 (j:Int),.int .u64 (b:Int)]] W fun e w'=>e=.returned (.bool (rightP r d j b))∧Below W.heap.size W w':=by
 unfold rightP
 obtain ⟨q0,hq0⟩:∃q,q=decide (1≤r):=⟨_,rfl⟩
 have g0:decide ((1:Int)≤(r:Int))=q0:=by rw [hq0];apply decide_eq_decide.2;omega
 obtain ⟨q1,hq1⟩:∃q,q=decide (r≤1099511627776):=⟨_,rfl⟩
 have g1:decide ((r:Int)≤(1099511627776:Int))=q1:=by rw [hq1];apply decide_eq_decide.2;omega
 obtain ⟨q2,hq2⟩:∃q,q=decide (d≤4398046511104):=⟨_,rfl⟩
 have g2:decide ((d:Int)≤(4398046511104:Int))=q2:=by rw [hq2];apply decide_eq_decide.2;omega
 obtain ⟨q3,hq3⟩:∃q,q=decide (j≤4398046511104):=⟨_,rfl⟩
 have g3:decide ((j:Int)≤(4398046511104:Int))=q3:=by rw [hq3];apply decide_eq_decide.2;omega
 obtain ⟨q4,hq4⟩:∃q,q=decide (1≤b):=⟨_,rfl⟩
 have g4:decide ((1:Int)≤(b:Int))=q4:=by rw [hq4];apply decide_eq_decide.2;omega
 obtain ⟨q5,hq5⟩:∃q,q=decide (b≤72057594037927936):=⟨_,rfl⟩
 have g5:decide ((b:Int)≤(72057594037927936:Int))=q5:=by rw [hq5];apply decide_eq_decide.2;omega
 rw [← hq0,← hq1,← hq2,← hq3,← hq4,← hq5]
 replace hq0:=hq0.symm
 replace hq1:=hq1.symm
 replace hq2:=hq2.symm
 replace hq3:=hq3.symm
 replace hq4:=hq4.symm
 replace hq5:=hq5.symm
 cases q0 with
 | false=>
   go_enter Try.func9,Try.ntmps9
   go_wp2
   go_ret
   exact ⟨rfl,al_be _ _⟩
 | true=>
   cases q1 with
   | false=>
     go_enter Try.func9,Try.ntmps9
     go_wp2
     go_ret
     exact ⟨rfl,al_be _ _⟩
   | true=>
     cases q2 with
     | false=>
       go_enter Try.func9,Try.ntmps9
       go_wp2
       go_ret
       exact ⟨rfl,al_be _ _⟩
     | true=>
       cases q3 with
       | false=>
         go_enter Try.func9,Try.ntmps9
         go_wp2
         go_ret
         exact ⟨rfl,al_be _ _⟩
       | true=>
         cases q4 with
         | false=>
           go_enter Try.func9,Try.ntmps9
           go_wp2
           go_ret
           exact ⟨rfl,al_be _ _⟩
         | true=>
           cases q5 with
           | false=>
             go_enter Try.func9,Try.ntmps9
             go_wp2
             go_ret
             exact ⟨rfl,al_be _ _⟩
           | true=>
             go_enter Try.func9,Try.ntmps9
             go_wp2
             go_ret
             exact ⟨rfl,al_be _ _⟩
def newP (n x:Nat):Pk:=⟨n,x,0,0,0,0,false⟩
def pkts (f:Nat) (l:List Nat):List Pk:=l.mapIdx fun i x=>newP (f + i) x
theorem pkts_len (f:Nat) (l:List Nat):(pkts f l).length=l.length:=by simp [pkts]
theorem pkts_snoc (f:Nat) (l:List Nat) (x:Nat):pkts f (l ++ [x])=pkts f l ++ [newP (f + l.length) x]:=by simp [pkts,List.mapIdx_append]
theorem pkts_size {f:Nat} {l:List Nat} {M:Nat} (h:∀x∈l,x≤M):∀p∈pkts f l,p.size≤M:=by
 intro p hp
 unfold pkts at hp
 obtain ⟨i,hi,rfl⟩:=List.mem_mapIdx.1 hp
 exact h _ (List.getElem_mem _)
theorem take_nat (l:List Nat) (k:Nat) (h:k < l.length):l.take (k + 1)=l.take k ++ [l.getD k 0]:=by
 rw [List.take_add_one];simp [h]
theorem pk_info21:(Try.prog.info? 65).map (fun i=>(i.zero,i.size,i.bytes))=some (some (.agg #[.int .u64 0,.int .u64 0,.int .u64 0,.int .u64 0,.int .u64 0,.int .u64 0,.bool false]),7,56):=by kernel_rfl
set_option maxRecDepth 100000 in
set_option maxHeartbeats 1000000 in
theorem packets_any (f:Nat) (l:List Nat) (ao:Option Addr) (cap:Nat) (W:World) (h:InNus W ao l.length cap l) (hl:l.length≤60) (hf:f≤3600):
  Calls Try.prog 14 #[.int .i64 (f:Int),.slice ao l.length cap] W fun e w'=>∃v,e=.returned v∧SOwn 65 W.heap.size w' v (pkts f l)∧Below W.heap.size W w':=by
 obtain ⟨i0,hi0,hz⟩:∃i,Try.prog.info? 65=some i∧(i.zero,i.size,i.bytes)=(some (.agg #[.int .u64 0,.int .u64 0,.int .u64 0,.int .u64 0,.int .u64 0,.int .u64 0,.bool false]),7,56):=by
  have:=pk_info21
  cases hq:Try.prog.info? 65 with
  | none=>rw [hq] at this;cases this
  | some i=>rw [hq] at this;exact ⟨i,rfl,by simpa using this⟩
 have hz0:i0.zero=some (.agg #[.int .u64 0,.int .u64 0,.int .u64 0,.int .u64 0,.int .u64 0,.int .u64 0,.bool false]):=congrArg (·.1) hz
 have hz1:i0.size=7:=congrArg (·.2.1) hz
 have hz2:i0.bytes=56:=congrArg (·.2.2) hz
 have HI:=Lib.hid hi0
 have HZ0:=Lib.hid hz0
 have HZ1:=Lib.hid hz1
 have HZ2:=Lib.hid hz2
 have HN:=Lib.hid h
 clear hi0 hz hz0 hz1 hz2 h
 go_enter Try.func14,Try.ntmps14
 go_wp2_with fail
 go_loopw [6,5] (fun i ov wr=>∃k:Nat,i=.int .i64 (k:Int)∧k≤l.length∧SOwn 65 W.heap.size wr ov (pkts f (l.take k))∧Below W.heap.size W wr) (fun i _ _=>l.length - (intOf i).toNat)
 case atStart=>exact ⟨0,rfl,Nat.zero_le _,SOwn.nil _ _ _,Below.refl _ _⟩
 case round=>
  obtain ⟨k,rfl,hk,ho,hbe⟩:=hrel
  by_cases hlt:k < l.length
  ·obtain ⟨b,off,rfl,hb,hcs⟩:=HN.out.nus (by omega)
   have hc:=(hbe.cell (p:=⟨b,off + k,none⟩) hb).trans (hcs k hlt)
   obtain ⟨x,hx⟩:∃x,x=l.getD k 0:=⟨_,rfl⟩
   rw [← hx] at hc
   have HLn:Hid ((pkts f (l.take k)).length=k):=Lib.hid (by rw [pkts_len,List.length_take];omega)
   have HT:Hid (pkts f (l.take (k + 1))=pkts f (l.take k) ++ [newP (f + k) x]):=Lib.hid (by rw [take_nat l k hlt,← hx,pkts_snoc,List.length_take,Nat.min_eq_left (by omega)])
   have HO:=Lib.hid ho
   have HBe:=Lib.hid hbe
   have HOne:=Lib.hid (Itm.one (newP (f + k) x))
   have j0:(0:Int)≤(k:Int):=by omega
   have j1:(k:Int) < (l.length:Int):=by omega
   have hs1:(f:Int) + (k:Int)=((f + k:Nat):Int):=by omega
   have hs2:IntKind.i64.wrap ((f + k:Nat):Int)=((f + k:Nat):Int):=by rw [IntKind.wrap_i64];omega
   have hs3:IntKind.u64.wrap ((f + k:Nat):Int)=((f + k:Nat):Int):=by rw [IntKind.wrap_u64];omega
   clear ho hbe hx hcs hb
   have HW:Hid (∀v,newP v x=⟨v,x,0,0,0,0,false⟩):=Lib.hid (fun _=>rfl)
   generalize f + k=fk at *
   generalize pkts f (l.take k)=pre at *
   obtain ⟨ap,cp,hv,hp1,hp2,_,_⟩:=HO.out.form
   subst hv
   have HO2:=Lib.hid (HO.out.keep (al_be wr (.cells #[.int .u64 (fk:Int),.int .u64 (x:Int),.int .u64 0,.int .u64 0,.int .u64 0,.int .u64 0,.bool false] 65)))
   have HNw:=Lib.hid (World.news_of_block (Blk.new wr 65 #[.int .u64 (fk:Int),.int .u64 (x:Int),.int .u64 0,.int .u64 0,.int .u64 0,.int .u64 0,.bool false]))
   have hsz:W.heap.size≤(wr.alloc (.cells #[.int .u64 (fk:Int),.int .u64 (x:Int),.int .u64 0,.int .u64 0,.int .u64 0,.int .u64 0,.bool false] 65)).heap.size:=by have:=HBe.out.size;simp;omega
   have hpl:pre.length≤5000:=by rw [HLn.out];omega
   go_wp2_with (at_builtin;refine wpList_append_own_at _ rfl (.tmp 13) (.tmp 23) 42 rfl W.heap.size 65 _ (.agg #[.int .u64 0,.int .u64 0,.int .u64 0,.int .u64 0,.int .u64 0,.int .u64 0,.bool false]) 7 56 Try.underlying42 HI.out HZ0.out HZ1.out HZ2.out rfl (by decide) (.slice ap pre.length cp) pre.length (pre.flatMap Itm.cs) rfl HO2.out ⟨wr.heap.size,0,none⟩ 1 1 (Itm.cs (newP fk x)) rfl rfl HNw.out HOne.out (by unfold maxLen;omega) (by omega) hsz ?_;intro v' w5 hown hgr hnil hat;have HW5:=Lib.hid hown;have HG:=Lib.hid hgr;clear hown hgr hnil hat)
   have HS:Hid (SOwn 65 W.heap.size w5 v' (pre ++ [newP fk x])):=Lib.hid (SOwn.snoc HW5.out)
   have HB5:=Lib.hid (bel_app HBe.out HBe.out.size HO.out (.cells #[.int .u64 (fk:Int),.int .u64 (x:Int),.int .u64 0,.int .u64 0,.int .u64 0,.int .u64 0,.bool false] 65) HG.out)
   clear HW5 HG HO HO2 HNw HBe
   go_wp2_with fail
   go_roundw
   case rel=>exact ⟨k + 1,by go_num,by omega,by rw [HT.out];exact HS.out,HB5.out⟩
   case measure=>simp [intOf];omega
  ·obtain rfl:k=l.length:=by omega
   rw [List.take_length] at ho
   have HO:=Lib.hid ho
   have HBe:=Lib.hid hbe
   clear ho hbe
   go_wp2_with fail
   go_ret
   exact ⟨_,rfl,HO.out,HBe.out⟩
end Go.Proofs.Ytaffjfajjpgjpaa

set_option linter.unusedVariables false
namespace Go.Proofs.Ytaffjfajjpgjpaa
open Go.RowKit
theorem away_in {W w:World} {ao:Option Addr} {n cap:Nat} {cs:List Nat} (h:InNus W ao n cap cs) (k:Below W.heap.size W w) (p:PL) (hp:∀x∈p.l,W.heap.size≤x):Away w p ao cs cap:=by
 refine ⟨h.nus.keep k,fun h1 a e hm=>?_,fun h1 a e=>?_,h.mx,by rw [h.len];exact h.le,h.big⟩
 ·have:=h.lt h1 a e
  have:=hp _ hm
  omega
 ·have:=h.lt h1 a e
  have:=k.size
  omega
theorem fit_of {l:List Act21} (h:fits21 l=true):l.length≤60∧∀k,k < l.length→fit1 (l.getD k default)=true:=by
 unfold fits21 at h
 simp only [Bool.and_eq_true,decide_eq_true_eq,List.all_eq_true] at h
 exact ⟨h.1,fun k hk=>h.2 _ (getD_mem hk)⟩
theorem fit_sizes {q:Act21} (h:fit1 q=true):q.sizes.length≤60:=by
 unfold fit1 at h
 simp only [Bool.and_eq_true,decide_eq_true_eq] at h
 exact h.1
end Go.Proofs.Ytaffjfajjpgjpaa

set_option linter.unusedVariables false
namespace Go.Proofs.Ytaffjfajjpgjpaa
open Go.RowKit
theorem dn_New_no (r d j b:Nat) (W:World) (h:rightP r d j b=false):Calls Try.prog 23 #[.agg #[.int .u64 (r:Int),.int .u64 (d:Int),.int .u64 (j:Int),.int .u64 (b:Int)]] W fun e w'=>e=.returned (.tuple #[.pointer none,.bool false])∧Below W.heap.size W w':=by
 have HR:=Lib.hid (rf_Right r d j b)
 rw [h] at HR
 go_enter Try.func23,Try.ntmps23
 go_wp2_with fail
 refine (HR.out _).mono ?_
 rintro e w1 ⟨rfl,hb⟩
 have HB:Hid (Below W.heap.size W w1):=Lib.hid (bel_to (al_be _ _) hb (by simp))
 clear hb HR
 go_wp2_with fail
 go_ret2
 exact ⟨rfl,HB.out⟩
def newC (r d j b:Nat):Array Value:=#[.int .u64 (r:Int),.int .u64 0,.int .u64 0,.int .u64 0,.int .u64 (b:Int),.slice none 0 0,.int .u64 0,.int .u64 0,.int .u64 (d:Int),.int .u64 (j:Int),.slice none 0 0,.int .u64 0]
theorem dn_New (r d j b:Nat) (W:World) (h:rightP r d j b=true):Calls Try.prog 23 #[.agg #[.int .u64 (r:Int),.int .u64 (d:Int),.int .u64 (j:Int),.int .u64 (b:Int)]] W fun e w'=>∃c,e=.returned (.tuple #[.pointer (some ⟨c,0,none⟩),.bool true])∧Blk w' c 49 (newC r d j b)∧W.heap.size≤c∧Below W.heap.size W w':=by
 have HR:=Lib.hid (rf_Right r d j b)
 rw [h] at HR
 have I0:Hid (NwI W W.heap.size #[.int .u64 (r:Int),.int .u64 (d:Int),.int .u64 (j:Int),.int .u64 (b:Int)] (W.alloc (.cells #[.int .u64 (r:Int),.int .u64 (d:Int),.int .u64 (j:Int),.int .u64 (b:Int)] 24))):=Lib.hid ⟨Blk.new _ _ _,al_be _ _⟩
 obtain ⟨r0,r1,r2,r3⟩:=nw_r (W:=W) (z:=W.heap.size) (r:=r) (d:=d) (j:=j) (b:=b)
 clear h
 go_enter Try.func23,Try.ntmps23
 go_wp2_with fail
 refine (HR.out _).mono ?_
 rintro e w0 ⟨rfl,hb⟩
 have M0:=Lib.hid (I0.out.to hb)
 clear hb HR I0
 have c0:=r0 _ M0
 have c1:=r1 _ M0
 have c2:=r2 _ M0
 have c3:=r3 _ M0
 clear r0 r1 r2 r3
 go_wp2_with fail
 go_ret2
 exact ⟨_,rfl,Blk.new _ _ _,M0.out.bel.size,bel_to M0.out.bel (al_be _ _) M0.out.bel.size⟩
theorem dk_New_no (r d j b:Nat) (W:World) (h:rightP r d j b=false):Calls Try.prog 7 #[.agg #[.int .u64 (r:Int),.int .u64 (d:Int),.int .u64 (j:Int),.int .u64 (b:Int)]] W fun e w'=>e=.returned (.tuple #[.pointer none,.bool false])∧Below W.heap.size W w':=by
 have HR:=Lib.hid (fun W=>dn_New_no r d j b W h)
 go_enter Try.func7,Try.ntmps7
 go_wp2_with fail
 refine (HR.out _).mono ?_
 rintro e w1 ⟨rfl,hb⟩
 have HB:Hid (Below W.heap.size W w1):=Lib.hid (bel_to (al_be _ _) hb (by simp))
 clear hb HR
 go_wp2_with fail
 go_ret2
 exact ⟨rfl,HB.out⟩
theorem dk_New (r d j b B:Nat) (W:World) (hB:B≤W.heap.size) (h:rightP r d j b=true):Calls Try.prog 7 #[.agg #[.int .u64 (r:Int),.int .u64 (d:Int),.int .u64 (j:Int),.int .u64 (b:Int)]] W fun e w'=>(∃m c,e=.returned (.tuple #[.pointer (some ⟨m,0,none⟩),.bool true])∧DkAt B w' m c (.slice none 0 0) (.slice none 0 0) (LS.start r d j b)∧W.heap.size≤m∧W.heap.size≤c)∧Below W.heap.size W w':=by
 have HR:=Lib.hid (fun W=>dn_New r d j b W h)
 clear h
 go_enter Try.func7,Try.ntmps7
 go_wp2_with fail
 refine (HR.out _).mono ?_
 rintro e w1 ⟨c,rfl,hc,hl,hb⟩
 have HB:Hid (Below W.heap.size W w1):=Lib.hid (bel_to (al_be _ _) hb (by simp))
 have HC:=Lib.hid hc
 have HL:=Lib.hid hl
 clear hb HR hc hl
 go_wp2_with fail
 go_ret2
 have z:=HL.out
 simp only [World.alloc,Array.size_push] at z
 refine ⟨⟨_,c,rfl,⟨Blk.new _ _ _,⟨_,HC.out.keep (al_be _ _),rfl,⟨rfl,rfl,rfl,rfl⟩,⟨rfl,rfl,rfl,rfl⟩,⟨rfl,rfl,rfl,rfl⟩⟩,ROwn.nil _ _,SOwn.nil _ _ _⟩,HB.out.size,by omega⟩,bel_to HB.out (al_be _ _) HB.out.size⟩
end Go.Proofs.Ytaffjfajjpgjpaa

set_option linter.unusedVariables false
namespace Go.Proofs.Ytaffjfajjpgjpaa
open Go.RowKit
theorem sumQ_told (l:List Pk):sumQ l=LS.told (totP l):=by
 unfold sumQ LS.told
 rw [sumQ_all _ _ (Nat.zero_le _),Nat.zero_add]
set_option maxRecDepth 100000 in
set_option maxHeartbeats 1000000 in
theorem dk_Under (B m c:Nat) (v u:Value) (s:LS) (w:World) (h:DkAt B w m c v u s) (hf:s.j.l.length≤5000) (hz:∀x∈s.j.l,x.p.size≤18446744073709551615):
  Calls Try.prog 34 #[.pointer (some ⟨m,0,none⟩)] w fun e w'=>e=.returned (.int .u64 ((LS.told (totP (s.j.l.map Jp.p)):Nat):Int))∧w=w':=by
 rw [← sumQ_told]
 obtain ⟨cs,hc,_,_,_,hj⟩:=h.body
 have c0:w.cell? ⟨m,0,none⟩=some (.pointer (some ⟨c,0,none⟩)):=h.head.cell rfl
 obtain ⟨ao,cap,hv,hc1,hc2,hi,hg⟩:=h.j.form
 have c1:=hc.cell hj.v
 rw [hv] at c1
 have HI:=Lib.hid hi
 have HZ:=Lib.hid hz
 have HG:=Lib.hid hg
 clear h hc hj hi hg hz hv
 generalize s.j.l=l at *
 go_enter Try.func34,Try.ntmps34
 go_wp2
 go_loop [4,3] (fun i t=>∃k:Nat,i=.int .i64 (k:Int)∧t=.int .u64 ((sumQ ((l.take k).map Jp.p):Nat):Int)∧k≤l.length) (fun i _=>l.length - (intOf i).toNat)
 case atStart=>exact ⟨0,rfl,rfl,Nat.zero_le _⟩
 case round=>
  obtain ⟨k,rfl,rfl,hk⟩:=hrel
  by_cases hlt:k < l.length
  ·obtain ⟨g,rfl,_⟩:=HG.out (by omega)
   obtain ⟨x,hx⟩:∃x,x=l.getD k Itm.z:=⟨_,rfl⟩
   obtain ⟨_,a1,_,_,_,_,_,_⟩:=its_jp HI.out k hlt x hx
   have hxl:x∈l:=by rw [hx,List.getD_eq_getElem?_getD,List.getElem?_eq_getElem hlt];exact List.getElem_mem hlt
   have HS:Hid (sumQ ((l.take (k + 1)).map Jp.p)=Pl.addS (sumQ ((l.take k).map Jp.p)) x.p.size):=Lib.hid (by
    rw [hx,pks_take l k hlt,sumQ_snoc])
   have HA:=Lib.hid (fun w=>ref_Add (sumQ ((l.take k).map Jp.p)) x.p.size w (sumQ_le _) (HZ.out x hxl))
   have i0:(0:Int)≤(k:Int):=by omega
   have i1:(k:Int) < (l.length:Int):=by omega
   clear hx hxl
   rw [← HS.out] at HA
   generalize sumQ ((l.take k).map Jp.p)=y at *
   generalize hy2:sumQ ((l.take (k + 1)).map Jp.p)=y2 at *
   go_wp2_with fail
   refine (HA.out _).mono ?_
   rintro e w' ⟨rfl,rfl⟩
   go_wp2_with fail
   go_round
   case rel=>exact ⟨k + 1,by go_num,by rw [hy2],by omega⟩
   case measure=>simp [intOf];omega
  ·obtain rfl:k=l.length:=by omega
   have e:Hid (sumQ ((l.take l.length).map Jp.p)=sumQ (l.map Jp.p)):=Lib.hid (by rw [List.take_length])
   rw [e.out]
   go_wp2
   go_ret
   exact ⟨rfl,rfl⟩
theorem dk_Bytes (B m c:Nat) (v u:Value) (s:LS) (w:World) (h:DkAt B w m c v u s) (hf:s.q.l.length≤5000) (hz:∀x∈s.q.l,x.size≤18446744073709551615) (hi:QInv s.q):
  Calls Try.prog 33 #[.pointer (some ⟨c,4,none⟩)] w fun e w'=>e=.returned (.int .u64 (s.q.n:Int))∧w=w':=by
 obtain ⟨cs,hc,_,_,hr,_⟩:=h.body
 rw [← hi.sum]
 exact rq_Bytes c 4 B _ cs v s.q w hc hr h.q hf hz
end Go.Proofs.Ytaffjfajjpgjpaa

set_option linter.unusedVariables false
namespace Go.Proofs.Ytaffjfajjpgjpaa
open Go.RowKit
theorem kb_waste_r (s:KB) (x:Nat):(s.wasteS x).r=s.r:=by unfold KB.wasteS;(try split) <;> rfl
theorem di_To (B:Nat) (W:World) (m c:Nat) (v0 u0:Value) (s:LS) (now:Nat) (ho:s.k.ok) (hn:now≤18446744073709551615) (w:World) (h:DI B W m c v0 u0 s w):
  Calls Try.prog 52 #[.pointer (some ⟨c,0,none⟩),.int .u64 (now:Int)] w fun e w'=>e=.returned (.tuple #[])∧Hid (DI B W m c v0 u0 (s.withK (s.k.toS now)) w'):=by
 obtain ⟨v,u,h1,h2⟩:=h.at_
 obtain ⟨cs,hc,hs,hka,hr,hj⟩:=h1.body
 exact (rk_To c 0 now 49 cs s.k w hc hka ho hn).mono fun e w' k=>⟨k.e,Lib.hid (h.k h1 h2 hc hs hka hr hj (KB.to_r _ _) k)⟩
theorem di_Take (B:Nat) (W:World) (m c:Nat) (v0 u0:Value) (s:LS) (x:Nat) (ho:s.k.ok) (hn:x≤18446744073709551615) (w:World) (h:DI B W m c v0 u0 s w):
  Calls Try.prog 53 #[.pointer (some ⟨c,0,none⟩),.int .u64 (x:Int)] w fun e w'=>e=.returned (.bool (s.k.takeB x))∧Hid (DI B W m c v0 u0 (s.withK (s.k.takeS x)) w'):=by
 obtain ⟨v,u,h1,h2⟩:=h.at_
 obtain ⟨cs,hc,hs,hka,hr,hj⟩:=h1.body
 exact (rk_Take c 0 x 49 cs s.k w hc hka ho hn).mono fun e w' k=>⟨k.e,Lib.hid (h.k h1 h2 hc hs hka hr hj (KB.take_r _ _) k)⟩
theorem di_Waste (B:Nat) (W:World) (m c:Nat) (v0 u0:Value) (s:LS) (x:Nat) (ho:s.k.ok) (hn:x≤18446744073709551615) (w:World) (h:DI B W m c v0 u0 s w):
  Calls Try.prog 56 #[.pointer (some ⟨c,0,none⟩),.int .u64 (x:Int)] w fun e w'=>e=.returned (.int .u64 (s.k.wasteN x:Int))∧Hid (DI B W m c v0 u0 (s.withK (s.k.wasteS x)) w'):=by
 obtain ⟨v,u,h1,h2⟩:=h.at_
 obtain ⟨cs,hc,hs,hka,hr,hj⟩:=h1.body
 exact (rk_Waste c 0 x 49 cs s.k w hc hka ho hn).mono fun e w' k=>⟨k.e,Lib.hid (h.k h1 h2 hc hs hka hr hj (kb_waste_r _ _) k)⟩
theorem di_Shift (B:Nat) (W:World) (m c:Nat) (v0 u0:Value) (s:LS) (hk:s.q.l.length≤5000) (hl:0 < s.q.l.length) (w:World) (h:DI B W m c v0 u0 s w):
  Calls Try.prog 54 #[.pointer (some ⟨c,4,none⟩)] w fun e w'=>e=.returned (.tuple #[s.q.headQ.agg,.bool true])∧Hid (DI B W m c v0 u0 (s.withQ s.q.shiftQ) w'):=by
 obtain ⟨v,u,h1,h2⟩:=h.at_
 obtain ⟨cs,hc,hs,hka,hr,hj⟩:=h1.body
 have e:s.q.l=s.q.headQ :: s.q.l.drop 1:=by
  unfold QK.headQ
  cases hq:s.q.l with
  | nil=>rw [hq] at hl;cases hl
  | cons a t=>rfl
 exact (rq_Shift_cons c 4 B 49 cs v s.q s.q.headQ (s.q.l.drop 1) w (by decide) (Nat.le_trans h.hB h.fr.size) hc hr h1.q hk e (Pl.subS s.q.n s.q.headQ.size)).mono fun e w' k=>⟨k.e,Lib.hid (h.q h1 h2 hc hs hka hj k)⟩
theorem di_PutJ (B:Nat) (W:World) (m c:Nat) (v0 u0:Value) (s:LS) (p:Pk) (now ch:Nat) (ho:s.j.ok) (hf:s.j.l.length≤5000) (hn:now≤18446744073709551615) (hc:ch≤18446744073709551615) (w:World) (h:DI B W m c v0 u0 s w):
  Calls Try.prog 55 #[.pointer (some ⟨c,8,none⟩),p.agg,.int .u64 (now:Int),.int .u64 (ch:Int)] w fun e w'=>e=.returned (.int .u64 ((s.j.dueB now ch:Nat):Int))∧Hid (DI B W m c v0 u0 (s.withJ (s.j.putB p now ch)) w'):=by
 obtain ⟨v,u,h1,h2⟩:=h.at_
 obtain ⟨cs,hcb,hs,hka,hr,hj⟩:=h1.body
 exact (rj_Put c 8 B 49 cs u p now ch s.j w (by decide) (Nat.le_trans h.hB h.fr.size) hcb hj h1.j ho hf hn hc).mono fun e w' k=>⟨k.e,Lib.hid (h.j h1 h2 hcb hs hka hr k.at_ k.fr)⟩
theorem di_Out (B:Nat) (W:World) (m c:Nat) (v0 u0:Value) (s:LS) (now:Nat) (hf:s.j.l.length≤5000) (w:World) (h:DI B W m c v0 u0 s w):
  Calls Try.prog 57 #[.pointer (some ⟨c,8,none⟩),.int .u64 (now:Int)] w fun e w'=>(∃ov,e=.returned ov∧Hid (SOwn 65 W.heap.size w' ov (s.j.told now)))∧Hid (DI B W m c v0 u0 (s.withJ (s.j.outB now)) w'):=by
 obtain ⟨v,u,h1,h2⟩:=h.at_
 obtain ⟨cs,hcb,hs,hka,hr,hj⟩:=h1.body
 exact (rj_Out c 8 B 49 cs u now s.j w (by decide) (by decide) (Nat.le_trans h.hB h.fr.size) hcb hj h1.j hf).mono fun e w' k=>by
  obtain ⟨ov,e1,e2⟩:=k.e
  exact ⟨⟨ov,e1,Lib.hid (e2.weak h.fr.size)⟩,Lib.hid (h.j h1 h2 hcb hs hka hr k.at_ k.fr)⟩
theorem DI.parts {B m c:Nat} {W w:World} {v0 u0:Value} {s:LS} (h:DI B W m c v0 u0 s w):w.cell? ⟨c,1,none⟩=some (.int .u64 (s.k.t:Int))∧∃ao cap,w.cell? ⟨c,5,none⟩=some (.slice ao s.q.l.length cap)∧s.q.l.length≤cap∧cap≤maxLen∧(0 < s.q.l.length→∃g,ao=some ⟨g,0,none⟩)∧Its w ao s.q.l:=by
 obtain ⟨v,u,h1,h2⟩:=h.at_
 obtain ⟨cs,hcb,hs,hka,hr,hj⟩:=h1.body
 obtain ⟨ao,cap,hv,hc1,hc2,hi,hg⟩:=h1.q.form
 have c1:=hcb.cell hr.v
 rw [hv] at c1
 exact ⟨hcb.cell hka.t,ao,cap,c1,hc1,hc2,fun hp=>(hg hp).elim fun g k=>⟨g,k.1⟩,hi⟩
end Go.Proofs.Ytaffjfajjpgjpaa

set_option linter.unusedVariables false
namespace Go.Proofs.Ytaffjfajjpgjpaa
open Go.RowKit
theorem with_step (s:LS) (k:KB) (q:QK) (j:BxS) (n0 n:Nat):(((s.withS n0).withK k).withQ q).withJ j=((((s.withK k).withQ q).withJ j).withS n).withS n0:=by
 simp only [LS.withK,LS.withQ,LS.withJ,LS.withS]
theorem dstep (x:LS) (ch n0:Nat):(((x.withS n0).withK (x.k.takeS x.q.headQ.size)).withQ x.q.shiftQ).withJ (x.j.putB x.q.headQ x.t ch)=(x.serve1 ch).withS n0:=by
 rw [serve1_with];exact with_step _ _ _ _ _ _
theorem DI.as {B m c:Nat} {W w:World} {v0 u0:Value} {s s':LS} (h:DI B W m c v0 u0 s w) (h1:s'.k=s.k) (h2:s'.q=s.q) (h3:s'.j=s.j) (h4:s'.came=s.came) (h5:s'.served=s.served) (h6:s'.deliv=s.deliv):DI B W m c v0 u0 s' w:=by
 obtain ⟨v,u,k1,k2⟩:=h.at_
 refine ⟨⟨v,u,⟨?_,?_,?_,?_⟩,k2⟩,h.fr,h.lt,h.hB⟩
 ·unfold LS.dcells;rw [h4,h5,h6];exact k1.head
 ·rw [h1,h2,h3];exact k1.body
 ·rw [h2];exact k1.q
 ·rw [h3];exact k1.j
theorem toT_withs (s:LS) (now n0:Nat):((s.toT now).withS n0).k=s.k.toS now∧((s.toT now).withS n0).q=s.q∧((s.toT now).withS n0).j=s.j∧((s.toT now).withS n0).came=s.came∧((s.toT now).withS n0).served=n0∧((s.toT now).withS n0).deliv=s.deliv:=by
 simp only [LS.withS,LS.toT];exact ⟨trivial,trivial,trivial,trivial,trivial,trivial⟩
structure TkI (B:Nat) (W:World) (m c:Nat) (v0 u0:Value) (now:Nat) (n0:Nat) (z:LS) (cs:List Nat) (k:Nat) (x:LS) (w:World):Prop where
 di:DI B W m c v0 u0 (x.withS n0) w
 e:x.serve (cs.drop k)=z
 ok:x.ok 5000
 t:x.t=now
 k:k + x.q.l.length≤5000
theorem wasteL_nil {s:LS} {x:Nat} (h:s.q.l.length=0):s.wasteL x=s.wasteK x:=by
 unfold LS.wasteL QK.someQ
 rw [List.eq_nil_of_length_eq_zero h]
 rfl
theorem wasteL_some {s:LS} {x:Nat} (h:¬ s.q.l.length=0):s.wasteL x=s:=by
 unfold LS.wasteL QK.someQ
 cases hq:s.q.l with
 | nil=>rw [hq] at h;exact absurd rfl h
 | cons a t=>rfl
theorem wasteK_withs (s:LS) (x n0:Nat):(s.wasteK x).withS n0=(s.withS n0).withK (s.k.wasteS x):=by
 simp only [LS.wasteK,LS.withS,LS.withK]
structure TkS (B:Nat) (W:World) (m c:Nat) (v0 u0:Value) (y:LS) (g n cap sz:Nat) (w:World):Prop where
 di:DI B W m c v0 u0 y w
 c5:w.cell? ⟨c,5,none⟩=some (.slice (some ⟨g,0,none⟩) n cap)
 c1:w.cell? ⟨g,1,none⟩=some (.int .u64 (sz:Int))
structure TkZ (B:Nat) (W:World) (m c:Nat) (v0 u0:Value) (y:LS) (zz:Nat) (p:Pk) (w:World):Prop where
 di:DI B W m c v0 u0 y w
 box:Blk w zz 65 #[.int .u64 (p.n:Int),.int .u64 (p.size:Int),.int .u64 (p.sent:Int),.int .u64 (p.first:Int),.int .u64 (p.deliv:Int),.int .u64 (p.at_:Int),.bool p.lim]
theorem TkZ.to {B m c zz:Nat} {W w w':World} {v0 u0:Value} {y:LS} {p:Pk} (h:TkZ B W m c v0 u0 y zz p w) (k:Below w.heap.size w w'):TkZ B W m c v0 u0 y zz p w':=⟨h.di.to k,h.box.keep k⟩
set_option maxRecDepth 100000 in
set_option maxHeartbeats 1000000 in
theorem dn_Tick (B m c:Nat) (v0 u0:Value) (s:LS) (now waste:Nat) (cs:List Nat) (ao:Option Addr) (cap0:Nat) (W:World) (h:DkAt B W m c v0 u0 s) (hB:B≤W.heap.size) (ho:s.ok 5000) (ht:s.k.t≤now) (hn:now≤18446744073709551615) (hw:waste≤18446744073709551615) (hi:Nus W ao cs) (ha:0 < cs.length→Apart ao (dl m c v0 u0)) (hm:∀c∈cs,c≤18446744073709551615) (hcap:cs.length≤9223372036854775807):
  Calls Try.prog 29 #[.pointer (some ⟨c,0,none⟩),.int .u64 (now:Int),.int .u64 (waste:Int),.slice ao cs.length cap0] W fun e w'=>(∃ov,e=.returned (.tuple #[ov,.int .i64 0])∧Hid (SOwn 65 W.heap.size w' ov ((s.ahead now waste cs).j.told now)))∧Hid (DI B W m c v0 u0 (((s.ahead now waste cs).withS s.served).withJ ((s.ahead now waste cs).j.outB now)) w'):=by
 have EA:s.ahead now waste cs=((s.toT now).serve cs).wasteL waste:=rfl
 rw [EA]
 clear EA
 obtain ⟨z,hz⟩:∃z,z=(s.toT now).serve cs:=⟨_,rfl⟩
 rw [← hz]
 obtain ⟨n0,hn0⟩:∃n0,n0=s.served:=⟨_,rfl⟩
 rw [← hn0]
 have H0:=Lib.hid (DI.start h hB)
 have c1:=H0.out.parts.1
 have d:decide (now < s.k.t)=false:=decide_eq_false (by omega)
 have HT:=Lib.hid (di_To B W m c v0 u0 s now ho.k hn W H0.out)
 have HOk:=Lib.hid (ho.toT hn)
 have HI:=Lib.hid hi
 have HM:=Lib.hid hm
 clear h ho hi hm
 generalize hkt:s.k.t=kt at *
 go_enter Try.func29,Try.ntmps29
 go_wp2_with fail
 refine HT.out.mono ?_
 rintro e w1 ⟨rfl,M0⟩
 have MS:Hid (TkI B W m c v0 u0 now n0 z cs 0 (s.toT now) w1):=Lib.hid ⟨(by
  obtain ⟨t1,t2,t3,t4,t5,t6⟩:=toT_withs s now n0
  exact M0.out.as t1 t2 t3 t4 (t5.trans hn0) t6),by rw [List.drop_zero];exact hz.symm,HOk.out,LS.toT_t s now,by have:=HOk.out.n;omega⟩
 clear HT H0 c1 d M0 HOk hz hn0
 go_wp2_with fail
 go_loopw [10] (fun i wr=>∃(k:Nat) (x:LS),i=.int .i64 (k:Int)∧Hid (TkI B W m c v0 u0 now n0 z cs k x wr)) (fun i _=>5000 - (intOf i).toNat)
 case atStart=>exact ⟨0,_,rfl,MS⟩
 case round=>
  clear MS
  obtain ⟨k,x,rfl,MI⟩:=hrel
  obtain ⟨ao1,cap,c5,hc1,hc2,hg,hit⟩:∃ao cap,wr.cell? ⟨c,5,none⟩=some (.slice ao x.q.l.length cap)∧x.q.l.length≤cap∧cap≤maxLen∧(0 < x.q.l.length→∃g,ao=some ⟨g,0,none⟩)∧Its wr ao x.q.l:=MI.out.di.parts.2
  by_cases hl:0 < x.q.l.length
  ·obtain ⟨g,rfl⟩:=hg hl
   have c1:wr.cell? ⟨g,1,none⟩=some (.int .u64 (x.q.headQ.size:Int)):=by
    obtain ⟨b,off,e1,_,hc⟩:=its_pk hit hl
    cases e1
    have:=(hc 0 hl x.q.headQ rfl).2.1
    simpa using this
   obtain ⟨y,hy⟩:∃y,y=x.withS n0:=⟨_,rfl⟩
   obtain ⟨p,hp⟩:∃p,p=x.q.headQ:=⟨_,rfl⟩
   have hps:p.size≤18446744073709551615:=by
    rw [hp];unfold QK.headQ
    rw [List.getD_eq_getElem?_getD,List.getElem?_eq_getElem hl]
    exact MI.out.ok.q.ok.sz _ (List.getElem_mem hl)
   have ey:y.k=x.k∧y.q=x.q∧y.j=x.j:=by rw [hy];exact ⟨rfl,rfl,rfl⟩
   obtain ⟨may,hmay⟩:∃b,b=x.k.takeB p.size:=⟨_,rfl⟩
   obtain ⟨k1,hk1⟩:∃k1,k1=x.k.takeS p.size:=⟨_,rfl⟩
   have HTk:Hid (∀w,DI B W m c v0 u0 y w→Calls Try.prog 53 #[.pointer (some ⟨c,0,none⟩),.int .u64 (p.size:Int)] w fun e w'=>e=.returned (.bool may)∧Hid (DI B W m c v0 u0 (y.withK k1) w')):=Lib.hid (fun w h=>by
    rw [hmay,hk1,← ey.1]
    exact di_Take B W m c v0 u0 y p.size (by rw [ey.1];exact MI.out.ok.k) hps w h)
   have M1:Hid (TkS B W m c v0 u0 y g x.q.l.length cap p.size wr.drew):=Lib.hid ⟨by rw [hy];exact MI.out.di.to ((Drawn.drew _).below _),c5,by rw [hp];exact c1⟩
   have HX:=Lib.hid (And.intro MI.out.e (And.intro MI.out.ok (And.intro MI.out.t MI.out.k)))
   have HP:=Lib.hid hp
   have HMy:=Lib.hid hmay
   have HK1:=Lib.hid hk1
   have HEy:=Lib.hid ey
   have HY:=Lib.hid hy
   have HPs:=Lib.hid hps
   clear hit MI hps ey hy hp hmay hk1 hg
   have hl5:(0:Int) < (x.q.l.length:Int):=by omega
   generalize hn':x.q.l.length=n at *
   have r5:∀w',Hid (TkS B W m c v0 u0 y g n cap p.size w')→w'.cell? ⟨c,5,none⟩=some (.slice (some ⟨g,0,none⟩) n cap):=fun w h=>h.out.c5
   have r1:∀w',Hid (TkS B W m c v0 u0 y g n cap p.size w')→w'.cell? ⟨g,1,none⟩=some (.int .u64 (p.size:Int)):=fun w h=>h.out.c1
   go_wp2_with fail
   refine wp_region_chain (S:=(fun w'=>Hid (TkS B W m c v0 u0 y g n cap p.size w'))) 11 (by kernel_rfl) (by kernel_rfl) (by kernel_rfl) M1 ?_
   generalize wr.drew=wd at *
   simp only [List.size_toArray,List.length_cons,List.length_nil,Nat.reduceAdd,Array.replicate_succ,Array.replicate_zero,List.push_toArray,List.nil_append,List.cons_append]
   refine Chain.take (i:=0) (oi:=⟨some 34,_,_,_,_,_⟩) (v:=?v1) rfl (by kernel_rfl) (by kernel_rfl) (Or.inl ⟨by rfl,?y1⟩) ?rest1
   case y1=>intro w hSw;clear hSw;go_simp;(try with_reducible rfl)
   simp only [Act.put,List.setIfInBounds_toArray,List.set_cons_zero,List.set_cons_succ]
   refine Chain.take (i:=1) (oi:=⟨some 35,_,_,_,_,_⟩) (v:=?v2) rfl (by kernel_rfl) (by kernel_rfl) (Or.inl ⟨by rfl,?y2⟩) ?rest2
   case y2=>intro w hSw;clear hSw;go_simp;(try with_reducible rfl)
   simp only [Act.put,List.setIfInBounds_toArray,List.set_cons_zero,List.set_cons_succ]
   refine Chain.take (i:=2) (oi:=⟨some 36,_,_,_,_,_⟩) (v:=?v3) rfl (by kernel_rfl) (by kernel_rfl) (Or.inl ⟨by rfl,?y3⟩) ?rest3
   case y3=>intro w hSw;clear hSw;go_simp;(try with_reducible rfl)
   simp only [Act.put,List.setIfInBounds_toArray,List.set_cons_zero,List.set_cons_succ]
   refine Chain.take (i:=3) (oi:=⟨some 37,_,_,_,_,_⟩) (v:=?v4) rfl (by kernel_rfl) (by kernel_rfl) (Or.inl ⟨by rfl,?y4⟩) ?rest4
   case y4=>intro w hSw;clear hSw;go_simp;(try with_reducible rfl)
   simp only [Act.put,List.setIfInBounds_toArray,List.set_cons_zero,List.set_cons_succ]
   refine Chain.take (i:=4) (oi:=⟨some 38,_,_,_,_,_⟩) (v:=?v5) rfl (by kernel_rfl) (by kernel_rfl) (Or.inl ⟨by rfl,?y5⟩) ?rest5
   case y5=>intro w hSw;clear hSw;go_simp;(try with_reducible rfl)
   simp only [Act.put,List.setIfInBounds_toArray,List.set_cons_zero,List.set_cons_succ]
   refine Chain.take (i:=5) (oi:=⟨some 39,_,_,_,_,_⟩) (v:=?v6) rfl (by kernel_rfl) (by kernel_rfl) (Or.inl ⟨by rfl,?y6⟩) ?rest6
   case y6=>intro w hSw;clear hSw;go_simp;(try with_reducible rfl)
   simp only [Act.put,List.setIfInBounds_toArray,List.set_cons_zero,List.set_cons_succ]
   refine Chain.take (i:=6) (oi:=⟨some 40,_,_,_,_,_⟩) (v:=?v7) rfl (by kernel_rfl) (by kernel_rfl) (Or.inl ⟨by rfl,?y7⟩) ?rest7
   case y7=>intro w hSw;clear hSw;go_simp;(try with_reducible rfl)
   simp only [Act.put,List.setIfInBounds_toArray,List.set_cons_zero,List.set_cons_succ]
   refine Chain.take (i:=7) (oi:=⟨some 41,_,_,_,_,_⟩) (v:=?v8) rfl (by kernel_rfl) (by kernel_rfl) (Or.inl ⟨by rfl,?y8⟩) ?rest8
   case y8=>intro w hSw;go_simp;(try with_reducible rfl)
   simp only [Act.put,List.setIfInBounds_toArray,List.set_cons_zero,List.set_cons_succ]
   refine Chain.take (i:=8) (oi:=⟨some 42,_,_,_,_,_⟩) (v:=?v9) rfl (by kernel_rfl) (by kernel_rfl) (Or.inl ⟨by rfl,?y9⟩) ?rest9
   case y9=>intro w hSw;clear hSw;go_simp;(try with_reducible rfl)
   simp only [Act.put,List.setIfInBounds_toArray,List.set_cons_zero,List.set_cons_succ]
   refine Chain.take (i:=9) (oi:=⟨some 43,_,_,_,_,_⟩) (v:=?v10) rfl (by kernel_rfl) (by kernel_rfl) (Or.inl ⟨by rfl,?y10⟩) ?rest10
   case y10=>intro w hSw;clear hSw;go_simp;(try with_reducible rfl)
   simp only [Act.put,List.setIfInBounds_toArray,List.set_cons_zero,List.set_cons_succ]
   refine Chain.take (i:=10) (oi:=⟨some 44,_,_,_,_,_⟩) (v:=?v11) rfl (by kernel_rfl) (by kernel_rfl) (Or.inl ⟨by rfl,?y11⟩) ?rest11
   case y11=>intro w hSw;go_simp;(try with_reducible rfl)
   simp only [Act.put,List.setIfInBounds_toArray,List.set_cons_zero,List.set_cons_succ]
   refine Chain.last (by kernel_rfl) (fun w hSw=>?_)
   refine wpAnyH_ready (rs:=[11]) (by kernel_rfl) (by simp) ?_
   refine AllReadyH.cons (o:=⟨some 45,_,_,_,_,_⟩) rfl (fun K hK=>?_) AllReadyH.nil
   go_simp
   refine (HTk.out _ hSw.out.di).mono ?_
   rintro e w2 ⟨rfl,M2⟩
   clear hSw M1 HTk r5 r1
   go_wp2_with fail
   refine hK.out _ _ trivial (fun _=>?_)
   clear hK
   try simp only [List.setIfInBounds_toArray,List.set_cons_zero,List.set_cons_succ]
   refine wpAnyH_take (i:=12) (oi:=⟨some 11,_,_,_,_,_⟩) (v:=?v12) rfl (by kernel_rfl) (by kernel_rfl) (by kernel_rfl) (fun _ _ _ h=>h) (Or.inl ⟨by rfl,?y12⟩) trivial ?rest12
   case y12=>intro w hSw;clear hSw;go_simp;(try with_reducible rfl)
   simp only [Act.put,List.setIfInBounds_toArray,List.set_cons_zero,List.set_cons_succ]
   refine wpAnyH_done (by kernel_rfl) ?_ _
   skip
   cases may with
   | false=>
     have EZ:x=z:=by
      rw [← HX.out.1]
      refine (LS.serve_no ?_ _).symm
      unfold LS.may
      rw [← HP.out,← HMy.out]
      exact Bool.and_false _
     have EY:y.withK k1=x.withS n0:=by
      rw [HK1.out,HY.out,take_no HMy.out.symm];rfl
     rw [EY] at M2
     have MT:Hid (DI B W m c v0 u0 (z.withS n0) w2):=EZ▸M2
     have HOz:Hid (z.ok 5000):=Lib.hid (EZ▸HX.out.2.1)
     clear HX HP HMy HK1 HEy HY HPs EY M2 c5 c1 EZ hc1 hc2 hn' hl hl5
     clear x y k1
     obtain ⟨ao2,cap2,c52,hc12,hc22,hg2,hit2⟩:∃ao cap,World.cell? w2 ⟨c,5,none⟩=some (.slice ao z.q.l.length cap)∧z.q.l.length≤cap∧cap≤maxLen∧(0 < z.q.l.length→∃g,ao=some ⟨g,0,none⟩)∧Its w2 ao z.q.l:=MT.out.parts.2
     clear hg2 hit2
     have HOu:Hid (∀w,DI B W m c v0 u0 ((z.wasteL waste).withS n0) w→Calls Try.prog 57 #[.pointer (some ⟨c,8,none⟩),.int .u64 (now:Int)] w fun e w'=>(∃ov,e=.returned ov∧Hid (SOwn 65 W.heap.size w' ov ((z.wasteL waste).j.told now)))∧Hid (DI B W m c v0 u0 (((z.wasteL waste).withS n0).withJ ((z.wasteL waste).j.outB now)) w')):=Lib.hid (fun w h=>di_Out B W m c v0 u0 ((z.wasteL waste).withS n0) now (by have:=(HOz.out.waste waste).n;show (z.wasteL waste).j.l.length≤5000;omega) w h)
     by_cases he:z.q.l.length=0
     ·have EW:z.wasteL waste=z.wasteK waste:=wasteL_nil he
      have HWs:Hid (∀w,DI B W m c v0 u0 (z.withS n0) w→Calls Try.prog 56 #[.pointer (some ⟨c,0,none⟩),.int .u64 (waste:Int)] w fun e w'=>e=.returned (.int .u64 (z.k.wasteN waste:Int))∧Hid (DI B W m c v0 u0 ((z.wasteL waste).withS n0) w')):=Lib.hid (fun w h=>by
       rw [EW,wasteK_withs]
       exact di_Waste B W m c v0 u0 (z.withS n0) waste HOz.out.k hw w h)
      rw [he] at c52 hc12
      clear EW HOz he
      go_wp2_with fail
      refine (HWs.out _ MT.out).mono ?_
      rintro e w8 ⟨rfl,M8⟩
      clear HWs MT c52
      go_wp2_with fail
      refine (HOu.out _ M8.out).mono ?_
      rintro e w9 ⟨⟨ov,rfl,HS⟩,M9⟩
      clear HOu M8
      go_wp2_with fail
      go_ret2
      exact ⟨⟨ov,rfl,HS⟩,M9⟩
     ·have EW:z.wasteL waste=z:=wasteL_some he
      have hne:¬ ((z.q.l.length:Int)=0):=by omega
      rw [EW] at HOu
      go_wp2_with fail
      refine (HOu.out _ MT.out).mono ?_
      rintro e w9 ⟨⟨ov,rfl,HS⟩,M9⟩
      clear HOu MT
      go_wp2_with fail
      go_ret2
      rw [EW]
      exact ⟨⟨ov,rfl,HS⟩,M9⟩
   | true=>
     have HSh:Hid (∀w,DI B W m c v0 u0 (y.withK k1) w→Calls Try.prog 54 #[.pointer (some ⟨c,4,none⟩)] w fun e w'=>e=.returned (.tuple #[.agg #[.int .u64 (p.n:Int),.int .u64 (p.size:Int),.int .u64 (p.sent:Int),.int .u64 (p.first:Int),.int .u64 (p.deliv:Int),.int .u64 (p.at_:Int),.bool p.lim],.bool true])∧Hid (DI B W m c v0 u0 ((y.withK k1).withQ x.q.shiftQ) w')):=Lib.hid (fun w h=>by
      rw [HP.out]
      have e1:(y.withK k1).q=x.q:=HEy.out.2.1
      rw [← e1]
      exact di_Shift B W m c v0 u0 (y.withK k1) (by rw [e1];have:=HX.out.2.2.2;omega) (by rw [e1];omega) w h)
     go_wp2_with fail
     refine (HSh.out _ M2.out).mono ?_
     rintro e w3 ⟨rfl,M3⟩
     clear HSh M2
     obtain ⟨y3,hy3⟩:∃y3,y3=(y.withK k1).withQ x.q.shiftQ:=⟨_,rfl⟩
     rw [← hy3] at M3
     obtain ⟨ch,hch⟩:∃ch,ch=cs.getD k 0:=⟨_,rfl⟩
     have hcm:ch≤18446744073709551615:=by
      rw [hch,List.getD_eq_getElem?_getD]
      by_cases hk:k < cs.length
      ·rw [List.getElem?_eq_getElem hk];exact HM.out _ (List.getElem_mem hk)
      ·rw [List.getElem?_eq_none (by omega)];exact Nat.zero_le _
     have j3:y3.j=x.j:=by rw [hy3];exact HEy.out.2.2
     have HPk:Hid (∀w,DI B W m c v0 u0 y3 w→Calls Try.prog 55 #[.pointer (some ⟨c,8,none⟩),p.agg,.int .u64 (now:Int),.int .u64 (ch:Int)] w fun e w'=>e=.returned (.int .u64 ((y3.j.dueB now ch:Nat):Int))∧Hid (DI B W m c v0 u0 (y3.withJ (y3.j.putB p now ch)) w')):=Lib.hid (fun w h=>di_PutJ B W m c v0 u0 y3 p now ch (by rw [j3];exact HX.out.2.1.j) (by rw [j3];have:=HX.out.2.1.n;omega) hn hcm w h)
     have hm1:x.may=true:=by
      unfold LS.may QK.someQ
      rw [← HP.out,← HMy.out]
      cases hq:x.q.l with
      | nil=>rw [hq] at hn';simp at hn';omega
      | cons a t=>rfl
     have ES:y3.withJ (y3.j.putB p now ch)=(x.serve1 ch).withS n0:=by
      rw [← dstep,j3,hy3,HY.out,HK1.out,HP.out,HX.out.2.2.1]
     have HRel:Hid (∀w,Hid (DI B W m c v0 u0 (y3.withJ (y3.j.putB p now ch)) w)→Hid (TkI B W m c v0 u0 now n0 z cs (k + 1) (x.serve1 ch) w)):=Lib.hid (fun w h=>by
      rw [ES] at h
      have e1:=LS.serve_yes hm1 (cs.drop k)
      have e2:(cs.drop k).getD 0 0=ch:=by rw [hch];simp [List.getD_eq_getElem?_getD,List.getElem?_drop]
      have e3:(cs.drop k).drop 1=cs.drop (k + 1):=by rw [List.drop_drop]
      rw [e2,e3,HX.out.1] at e1
      have e4:=LS.serve1_len hm1 ch
      have e5:=HX.out.2.2.2
      exact Lib.hid ⟨h.out,e1.symm,HX.out.2.1.serve1 hm1 ch,(LS.serve1_t x ch).trans HX.out.2.2.1,by omega⟩)
     have M4:Hid (TkZ B W m c v0 u0 y3 w3.heap.size p (w3.alloc (.cells #[.int .u64 (p.n:Int),.int .u64 (p.size:Int),.int .u64 (p.sent:Int),.int .u64 (p.first:Int),.int .u64 (p.deliv:Int),.int .u64 (p.at_:Int),.bool p.lim] 65))):=Lib.hid ⟨M3.out.to (al_be _ _),Blk.new _ _ _⟩
     have hk5:k < 5000:=by have:=HX.out.2.2.2;omega
     have hw1:IntKind.i64.wrap ((k:Int) + 1)=(k:Int) + 1:=by rw [IntKind.wrap_i64];omega
     clear ES hm1 j3 hcm M3 HP HMy HK1 HEy HY HPs hy3
     by_cases hck:k < cs.length
     ·obtain ⟨b,off,rfl,_,hcc⟩:=HI.out.frl M4.out.di.fr ha (by omega)
      have cc:=hcc k hck
      rw [← hch] at cc
      have i0:(0:Int)≤(k:Int):=by omega
      have i1:(k:Int) < (cs.length:Int):=by omega
      clear hcc hch
      generalize hzz:w3.heap.size=zz at *
      generalize hw4:w3.alloc (.cells #[.int .u64 (p.n:Int),.int .u64 (p.size:Int),.int .u64 (p.sent:Int),.int .u64 (p.first:Int),.int .u64 (p.deliv:Int),.int .u64 (p.at_:Int),.bool p.lim] 65)=w4 at *
      go_wp2_with fail
      have HPj:Hid (∀w,DI B W m c v0 u0 y3 w→Calls Try.prog 55 #[.pointer (some ⟨c,8,none⟩),.agg #[.int .u64 (p.n:Int),.int .u64 (p.size:Int),.int .u64 (p.sent:Int),.int .u64 (p.first:Int),.int .u64 (p.deliv:Int),.int .u64 (p.at_:Int),.bool p.lim],.int .u64 (now:Int),.int .u64 (ch:Int)] w fun e w'=>e=.returned (.int .u64 ((y3.j.dueB now ch:Nat):Int))∧Hid (DI B W m c v0 u0 (y3.withJ (y3.j.putB p now ch)) w')):=Lib.hid (fun w h=>HPk.out w h)
      have M5:=Lib.hid (M4.out.to ((Drawn.drew _).below _))
      have q0:∀w,Hid (TkZ B W m c v0 u0 y3 zz p w)→w.cell? ⟨zz,0,none⟩=some (.int .u64 (p.n:Int)):=fun w h=>h.out.box.cell rfl
      have q1:∀w,Hid (TkZ B W m c v0 u0 y3 zz p w)→w.cell? ⟨zz,1,none⟩=some (.int .u64 (p.size:Int)):=fun w h=>h.out.box.cell rfl
      have q2:∀w,Hid (TkZ B W m c v0 u0 y3 zz p w)→w.cell? ⟨zz,2,none⟩=some (.int .u64 (p.sent:Int)):=fun w h=>h.out.box.cell rfl
      have q3:∀w,Hid (TkZ B W m c v0 u0 y3 zz p w)→w.cell? ⟨zz,3,none⟩=some (.int .u64 (p.first:Int)):=fun w h=>h.out.box.cell rfl
      have q4:∀w,Hid (TkZ B W m c v0 u0 y3 zz p w)→w.cell? ⟨zz,4,none⟩=some (.int .u64 (p.deliv:Int)):=fun w h=>h.out.box.cell rfl
      have q5:∀w,Hid (TkZ B W m c v0 u0 y3 zz p w)→w.cell? ⟨zz,5,none⟩=some (.int .u64 (p.at_:Int)):=fun w h=>h.out.box.cell rfl
      have q6:∀w,Hid (TkZ B W m c v0 u0 y3 zz p w)→w.cell? ⟨zz,6,none⟩=some (.bool p.lim):=fun w h=>h.out.box.cell rfl
      go_wp2_with fail
      refine wp_region_chain (S:=(fun w'=>Hid (TkZ B W m c v0 u0 y3 zz p w'))) 6 (by kernel_rfl) (by kernel_rfl) (by kernel_rfl) M5 ?_
      generalize w4.drew=wd at *
      simp only [List.size_toArray,List.length_cons,List.length_nil,Nat.reduceAdd,Array.replicate_succ,Array.replicate_zero,List.push_toArray,List.nil_append,List.cons_append]
      refine Chain.take (i:=0) (oi:=⟨some 65,_,_,_,_,_⟩) (v:=?v13) rfl (by kernel_rfl) (by kernel_rfl) (Or.inl ⟨by rfl,?y13⟩) ?rest13
      case y13=>intro w hSw;clear hSw;go_simp;(try with_reducible rfl)
      simp only [Act.put,List.setIfInBounds_toArray,List.set_cons_zero,List.set_cons_succ]
      refine Chain.take (i:=1) (oi:=⟨some 66,_,_,_,_,_⟩) (v:=?v14) rfl (by kernel_rfl) (by kernel_rfl) (Or.inl ⟨by rfl,?y14⟩) ?rest14
      case y14=>intro w hSw;clear hSw;go_simp;(try with_reducible rfl)
      simp only [Act.put,List.setIfInBounds_toArray,List.set_cons_zero,List.set_cons_succ]
      refine Chain.take (i:=2) (oi:=⟨some 67,_,_,_,_,_⟩) (v:=?v15) rfl (by kernel_rfl) (by kernel_rfl) (Or.inl ⟨by rfl,?y15⟩) ?rest15
      case y15=>intro w hSw;clear hSw;go_simp;(try with_reducible rfl)
      simp only [Act.put,List.setIfInBounds_toArray,List.set_cons_zero,List.set_cons_succ]
      refine Chain.take (i:=3) (oi:=⟨some 68,_,_,_,_,_⟩) (v:=?v16) rfl (by kernel_rfl) (by kernel_rfl) (Or.inl ⟨by rfl,?y16⟩) ?rest16
      case y16=>intro w hSw;go_simp;(try with_reducible rfl)
      simp only [Act.put,List.setIfInBounds_toArray,List.set_cons_zero,List.set_cons_succ]
      refine Chain.take (i:=4) (oi:=⟨some 69,_,_,_,_,_⟩) (v:=?v17) rfl (by kernel_rfl) (by kernel_rfl) (Or.inl ⟨by rfl,?y17⟩) ?rest17
      case y17=>intro w hSw;clear hSw;go_simp;(try with_reducible rfl)
      simp only [Act.put,List.setIfInBounds_toArray,List.set_cons_zero,List.set_cons_succ]
      refine Chain.take (i:=5) (oi:=⟨some 70,_,_,_,_,_⟩) (v:=?v18) rfl (by kernel_rfl) (by kernel_rfl) (Or.inl ⟨by rfl,?y18⟩) ?rest18
      case y18=>intro w hSw;clear hSw;go_simp;(try with_reducible rfl)
      simp only [Act.put,List.setIfInBounds_toArray,List.set_cons_zero,List.set_cons_succ]
      refine Chain.last (by kernel_rfl) (fun w hSw=>?_)
      refine wpAnyH_ready (rs:=[6]) (by kernel_rfl) (by simp) ?_
      refine AllReadyH.cons (o:=⟨some 71,_,_,_,_,_⟩) rfl (fun K hK=>?_) AllReadyH.nil
      go_simp
      refine (HPj.out _ hSw.out.di).mono ?_
      rintro e w5 ⟨rfl,M6⟩
      clear hSw M5 HPj q0 q1 q2 q3 q4 q5 q6
      go_wp2_with fail
      refine hK.out _ _ trivial (fun _=>?_)
      clear hK
      try simp only [List.setIfInBounds_toArray,List.set_cons_zero,List.set_cons_succ]
      refine wpAnyH_done (by kernel_rfl) ?_ _
      skip
      refine ⟨?_,?measure⟩
      refine ⟨_,_,_,_,_,_,_,_,_,_,_,_,_,_,_,_,_,_,_,_,_,_,_,_,_,_,_,_,_,_,_,_,_,_,_,_,_,_,_,_,_,_,_,_,_,_,_,_,_,_,?rel,rfl⟩
      case rel=>exact ⟨k + 1,x.serve1 ch,by go_num,HRel.out _ M6⟩
      case measure=>have:=HX.out.2.2.2;simp [intOf];omega
     ·have hc0:ch=0:=by rw [hch,List.getD_eq_getElem?_getD,List.getElem?_eq_none (by omega)];rfl
      have i1:¬ ((k:Int) < (cs.length:Int)):=by omega
      clear hch
      generalize hzz:w3.heap.size=zz at *
      generalize hw4:w3.alloc (.cells #[.int .u64 (p.n:Int),.int .u64 (p.size:Int),.int .u64 (p.sent:Int),.int .u64 (p.first:Int),.int .u64 (p.deliv:Int),.int .u64 (p.at_:Int),.bool p.lim] 65)=w4 at *
      subst hc0
      go_wp2_with fail
      have HPj:Hid (∀w,DI B W m c v0 u0 y3 w→Calls Try.prog 55 #[.pointer (some ⟨c,8,none⟩),.agg #[.int .u64 (p.n:Int),.int .u64 (p.size:Int),.int .u64 (p.sent:Int),.int .u64 (p.first:Int),.int .u64 (p.deliv:Int),.int .u64 (p.at_:Int),.bool p.lim],.int .u64 (now:Int),.int .u64 0] w fun e w'=>e=.returned (.int .u64 ((y3.j.dueB now 0:Nat):Int))∧Hid (DI B W m c v0 u0 (y3.withJ (y3.j.putB p now 0)) w')):=Lib.hid (fun w h=>HPk.out w h)
      have M5:=Lib.hid (M4.out.to ((Drawn.drew _).below _))
      have q0:∀w,Hid (TkZ B W m c v0 u0 y3 zz p w)→w.cell? ⟨zz,0,none⟩=some (.int .u64 (p.n:Int)):=fun w h=>h.out.box.cell rfl
      have q1:∀w,Hid (TkZ B W m c v0 u0 y3 zz p w)→w.cell? ⟨zz,1,none⟩=some (.int .u64 (p.size:Int)):=fun w h=>h.out.box.cell rfl
      have q2:∀w,Hid (TkZ B W m c v0 u0 y3 zz p w)→w.cell? ⟨zz,2,none⟩=some (.int .u64 (p.sent:Int)):=fun w h=>h.out.box.cell rfl
      have q3:∀w,Hid (TkZ B W m c v0 u0 y3 zz p w)→w.cell? ⟨zz,3,none⟩=some (.int .u64 (p.first:Int)):=fun w h=>h.out.box.cell rfl
      have q4:∀w,Hid (TkZ B W m c v0 u0 y3 zz p w)→w.cell? ⟨zz,4,none⟩=some (.int .u64 (p.deliv:Int)):=fun w h=>h.out.box.cell rfl
      have q5:∀w,Hid (TkZ B W m c v0 u0 y3 zz p w)→w.cell? ⟨zz,5,none⟩=some (.int .u64 (p.at_:Int)):=fun w h=>h.out.box.cell rfl
      have q6:∀w,Hid (TkZ B W m c v0 u0 y3 zz p w)→w.cell? ⟨zz,6,none⟩=some (.bool p.lim):=fun w h=>h.out.box.cell rfl
      go_wp2_with fail
      refine wp_region_chain (S:=(fun w'=>Hid (TkZ B W m c v0 u0 y3 zz p w'))) 6 (by kernel_rfl) (by kernel_rfl) (by kernel_rfl) M5 ?_
      generalize w4.drew=wd at *
      simp only [List.size_toArray,List.length_cons,List.length_nil,Nat.reduceAdd,Array.replicate_succ,Array.replicate_zero,List.push_toArray,List.nil_append,List.cons_append]
      refine Chain.take (i:=0) (oi:=⟨some 65,_,_,_,_,_⟩) (v:=?v19) rfl (by kernel_rfl) (by kernel_rfl) (Or.inl ⟨by rfl,?y19⟩) ?rest19
      case y19=>intro w hSw;clear hSw;go_simp;(try with_reducible rfl)
      simp only [Act.put,List.setIfInBounds_toArray,List.set_cons_zero,List.set_cons_succ]
      refine Chain.take (i:=1) (oi:=⟨some 66,_,_,_,_,_⟩) (v:=?v20) rfl (by kernel_rfl) (by kernel_rfl) (Or.inl ⟨by rfl,?y20⟩) ?rest20
      case y20=>intro w hSw;clear hSw;go_simp;(try with_reducible rfl)
      simp only [Act.put,List.setIfInBounds_toArray,List.set_cons_zero,List.set_cons_succ]
      refine Chain.take (i:=2) (oi:=⟨some 67,_,_,_,_,_⟩) (v:=?v21) rfl (by kernel_rfl) (by kernel_rfl) (Or.inl ⟨by rfl,?y21⟩) ?rest21
      case y21=>intro w hSw;clear hSw;go_simp;(try with_reducible rfl)
      simp only [Act.put,List.setIfInBounds_toArray,List.set_cons_zero,List.set_cons_succ]
      refine Chain.take (i:=3) (oi:=⟨some 68,_,_,_,_,_⟩) (v:=?v22) rfl (by kernel_rfl) (by kernel_rfl) (Or.inl ⟨by rfl,?y22⟩) ?rest22
      case y22=>intro w hSw;go_simp;(try with_reducible rfl)
      simp only [Act.put,List.setIfInBounds_toArray,List.set_cons_zero,List.set_cons_succ]
      refine Chain.take (i:=4) (oi:=⟨some 69,_,_,_,_,_⟩) (v:=?v23) rfl (by kernel_rfl) (by kernel_rfl) (Or.inl ⟨by rfl,?y23⟩) ?rest23
      case y23=>intro w hSw;clear hSw;go_simp;(try with_reducible rfl)
      simp only [Act.put,List.setIfInBounds_toArray,List.set_cons_zero,List.set_cons_succ]
      refine Chain.take (i:=5) (oi:=⟨some 70,_,_,_,_,_⟩) (v:=?v24) rfl (by kernel_rfl) (by kernel_rfl) (Or.inl ⟨by rfl,?y24⟩) ?rest24
      case y24=>intro w hSw;clear hSw;go_simp;(try with_reducible rfl)
      simp only [Act.put,List.setIfInBounds_toArray,List.set_cons_zero,List.set_cons_succ]
      refine Chain.last (by kernel_rfl) (fun w hSw=>?_)
      refine wpAnyH_ready (rs:=[6]) (by kernel_rfl) (by simp) ?_
      refine AllReadyH.cons (o:=⟨some 71,_,_,_,_,_⟩) rfl (fun K hK=>?_) AllReadyH.nil
      go_simp
      refine (HPj.out _ hSw.out.di).mono ?_
      rintro e w5 ⟨rfl,M6⟩
      clear hSw M5 HPj q0 q1 q2 q3 q4 q5 q6
      go_wp2_with fail
      refine hK.out _ _ trivial (fun _=>?_)
      clear hK
      try simp only [List.setIfInBounds_toArray,List.set_cons_zero,List.set_cons_succ]
      refine wpAnyH_done (by kernel_rfl) ?_ _
      skip
      refine ⟨?_,?measure⟩
      refine ⟨_,_,_,_,_,_,_,_,_,_,_,_,_,_,_,_,_,_,_,_,_,_,_,_,_,_,_,_,_,_,_,_,_,_,_,_,_,_,_,_,_,_,_,_,_,_,_,_,_,_,?rel,rfl⟩
      case rel=>exact ⟨k + 1,x.serve1 0,by go_num,HRel.out _ M6⟩
      case measure=>have:=HX.out.2.2.2;simp [intOf];omega
  ·have EZ:x=z:=by
    rw [← MI.out.e]
    refine (LS.serve_no ?_ _).symm
    unfold LS.may QK.someQ
    cases hq:x.q.l with
    | nil=>rfl
    | cons a t=>rw [hq] at hl;simp at hl
   have MT:Hid (DI B W m c v0 u0 (z.withS n0) wr):=Lib.hid (EZ▸MI.out.di)
   have HOz:Hid (z.ok 5000):=Lib.hid (EZ▸MI.out.ok)
   have h0:x.q.l.length=0:=by omega
   rw [h0] at c5 hc1
   have he:z.q.l.length=0:=EZ▸h0
   clear MI hg hit EZ h0 hl
   go_wp2_with fail
   have HOu:Hid (∀w,DI B W m c v0 u0 ((z.wasteL waste).withS n0) w→Calls Try.prog 57 #[.pointer (some ⟨c,8,none⟩),.int .u64 (now:Int)] w fun e w'=>(∃ov,e=.returned ov∧Hid (SOwn 65 W.heap.size w' ov ((z.wasteL waste).j.told now)))∧Hid (DI B W m c v0 u0 (((z.wasteL waste).withS n0).withJ ((z.wasteL waste).j.outB now)) w')):=Lib.hid (fun w h=>di_Out B W m c v0 u0 ((z.wasteL waste).withS n0) now (by have:=(HOz.out.waste waste).n;show (z.wasteL waste).j.l.length≤5000;omega) w h)
   have EW:z.wasteL waste=z.wasteK waste:=wasteL_nil he
   have HWs:Hid (∀w,DI B W m c v0 u0 (z.withS n0) w→Calls Try.prog 56 #[.pointer (some ⟨c,0,none⟩),.int .u64 (waste:Int)] w fun e w'=>e=.returned (.int .u64 (z.k.wasteN waste:Int))∧Hid (DI B W m c v0 u0 ((z.wasteL waste).withS n0) w')):=Lib.hid (fun w h=>by
    rw [EW,wasteK_withs]
    exact di_Waste B W m c v0 u0 (z.withS n0) waste HOz.out.k hw w h)
   clear EW HOz he
   refine (HWs.out _ MT.out).mono ?_
   rintro e w8 ⟨rfl,M8⟩
   clear HWs MT
   go_wp2_with fail
   refine (HOu.out _ M8.out).mono ?_
   rintro e w9 ⟨⟨ov,rfl,HS⟩,M9⟩
   clear HOu M8
   go_wp2_with fail
   go_ret2
   exact ⟨⟨ov,rfl,HS⟩,M9⟩
end Go.Proofs.Ytaffjfajjpgjpaa

set_option linter.unusedVariables false
namespace Go.Proofs.Ytaffjfajjpgjpaa
open Go.RowKit
theorem serve_front (s:LS) (cs:List Nat):∃n,n≤s.q.l.length∧(s.serve cs).q.l=s.q.l.drop n∧(s.serve cs).served=s.served + totP (s.q.l.take n):=by
 refine LS.serve_ind (P:=fun x=>∃n,n≤s.q.l.length∧x.q.l=s.q.l.drop n∧x.served=s.served + totP (s.q.l.take n)) (fun x c h hm=>?_) _ s cs rfl ⟨0,Nat.zero_le _,by rw [List.drop_zero],by rw [List.take_zero,totP_nil];rfl⟩
 obtain ⟨n,h1,h2,h3⟩:=h
 have hl:=LS.serve1_len hm c
 have e0:x.q.l.length=s.q.l.length - n:=by rw [h2,List.length_drop]
 have hlt:n < s.q.l.length:=by omega
 have e1:(x.serve1 c).q.l=x.q.l.drop 1:=by rw [LS.serve1_q];rfl
 refine ⟨n + 1,hlt,?_,?_⟩
 ·rw [e1,h2,List.drop_drop]
 ·have e2:x.q.headQ=s.q.l[n]:=by
   unfold QK.headQ
   rw [h2,List.getD_eq_getElem?_getD,List.getElem?_drop,Nat.add_zero,List.getElem?_eq_getElem hlt]
   rfl
  rw [LS.serve1_served,h3,e2,List.take_succ_eq_append_getElem hlt,totP_app,totP_cons,totP_nil]
  omega
theorem ahead_front (s:LS) (now waste:Nat) (cs:List Nat):∃n,n≤s.q.l.length∧(s.ahead now waste cs).q.l=s.q.l.drop n∧(s.ahead now waste cs).served=s.served + totP (s.q.l.take n):=by
 obtain ⟨n,h1,h2,h3⟩:=serve_front (s.toT now) cs
 have e:(((s.toT now).serve cs).wasteL waste).q.l=((s.toT now).serve cs).q.l∧(((s.toT now).serve cs).wasteL waste).served=((s.toT now).serve cs).served:=by
  unfold LS.wasteL
  split
  ·exact ⟨rfl,rfl⟩
  ·exact ⟨rfl,rfl⟩
 exact ⟨n,h1,e.1.trans h2,e.2.trans h3⟩
end Go.Proofs.Ytaffjfajjpgjpaa
