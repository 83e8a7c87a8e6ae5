/- Lemmas. -/
import Derived.Test.YtjhiooggnpbecaaGreatDoorK402
import Derived.RangeFuncNested
import Derived.RangeFuncBound
import Derived.Shelf.RegionOpen
import Derived.LoopNIn
import Derived.LoopIn
import Derived.Test.YtjhiooggnpbecaaGreatDoorK407
import Derived.Test.YtjhiooggnpbecaaGreatDoorK408
set_option linter.unusedVariables false
set_option maxHeartbeats 2000000
set_option maxRecDepth 100000
namespace Go.Proofs.YtjhiooggnpbecaaGreatDoor
open Tryz
variable {B b:Nat} {T:TypeId} {A W:World}
section
open Go.RowKit Go.Shelf Cf
attribute [local go_sem] Oper.semAt_some
structure Kf (W W':World):Prop where
 size:W.heap.size≤↑W'
 same:∀k cs,Blk W k 241 cs→Blk W' k 241 cs
theorem Kf.refl (W:World):Kf W W:=⟨Nat.le_refl _,fun _ _ h=>h⟩
theorem Kf.trans {B C:World} (h:Kf A B) (k:Kf B C):Kf A C:=⟨Nat.le_trans h.size k.size,fun i cs hi=>k.same i cs (h.same i cs hi)⟩
theorem Kf.below {W':World} (h:Below ↑W W W'):Kf W W':=⟨h.size,fun k cs hk=>hk.keep h⟩
theorem Kf.alloc (W:World) (o:Obj):Kf W (W.alloc o):=⟨by simp,fun k cs hk=>hk.alloc o⟩
theorem Kf.grown {W W':World} {row:Option Nat} (hg:W.grownBy W' row) (hne:∀r,row=some r→∀cs,¬ Blk W r 241 cs):Kf W W':=
 ⟨hg.size,fun k cs hk=>hk.grown hg (fun e=>hne k e.symm cs hk)⟩
theorem Kf.set (i:Nat) (u:Value) (hne:∀cs,¬ Blk W b 241 cs):Kf W (W.setCell ⟨b,i,none⟩ u):=
 ⟨by simp [World.setCell],fun k cs hk=>hk.set_other i u (fun e=>hne cs (e▸hk))⟩
theorem Kf.putObj {w:World} (W:World) (l:Nat) (o o':Obj) (_:↑w≤l) (h:W.heap[l]? =some o) (ho:o.isCells=false) (_:o.isWalk=false):Kf W (W.putObj l o'):=
 Kf.grown (grownBy_putObj' W l o') (fun r e cs hb=>by cases e;unfold Blk at hb;rw [h] at hb;cases hb;cases ho)
def mK (k:Fin 6):ByteArray:=⟨(word k).toArray⟩
def bD (bc:Nat) (k:Fin 6):Array Value:=#[.string (mK k),↑(κ bc k.val),↑(least k),↑(most k)]
def CH (bc:Nat):Array Value:=#[.string ⟨#[109,115,115]⟩,↑(π bc),.int .u64 1,.int .u64 65535,.string ⟨#[105,110,105,116]⟩,↑(κ bc 1),.int .u64 4,.int .u64 1000,.string ⟨#[114,101,111,114,100,101,114]⟩,↑(κ bc 2),.int .u64 1,.int .u64 100,.string ⟨#[119,105,110,100,111,119]⟩,↑(κ bc 3),.int .u64 1,.int .u64 1099511627776,.string ⟨#[112,114,111,98,101]⟩,↑(κ bc 4),.int .u64 1,.int .u64 1099511627776,.string ⟨#[108,111,115,115]⟩,↑(κ bc 5),↑ζ,.int .u64 1000]
theorem RC (bc:Nat):bD bc 0=#[.string ⟨#[109,115,115]⟩,↑(π bc),.int .u64 1,.int .u64 65535]:=by
 have hw:word 0=[109,115,115]:=rfl;have hl:least 0=1:=rfl;have hm:most 0=65535:=rfl;simp [bD,mK,hw,hl,hm]
theorem RD (bc:Nat):bD bc 1=#[.string ⟨#[105,110,105,116]⟩,↑(κ bc 1),.int .u64 4,.int .u64 1000]:=by
 have hw:word 1=[105,110,105,116]:=rfl;have hl:least 1=4:=rfl;have hm:most 1=1000:=rfl;simp [bD,mK,hw,hl,hm]
theorem RE (bc:Nat):bD bc 2=#[.string ⟨#[114,101,111,114,100,101,114]⟩,↑(κ bc 2),.int .u64 1,.int .u64 100]:=by
 have hw:word 2=[114,101,111,114,100,101,114]:=rfl;have hl:least 2=1:=rfl;have hm:most 2=100:=rfl;simp [bD,mK,hw,hl,hm]
theorem RF (bc:Nat):bD bc 3=#[.string ⟨#[119,105,110,100,111,119]⟩,↑(κ bc 3),.int .u64 1,.int .u64 1099511627776]:=by
 have hw:word 3=[119,105,110,100,111,119]:=rfl;have hl:least 3=1:=rfl;have hm:most 3=1099511627776:=rfl;simp [bD,mK,hw,hl,hm]
theorem RG (bc:Nat):bD bc 4=#[.string ⟨#[112,114,111,98,101]⟩,↑(κ bc 4),.int .u64 1,.int .u64 1099511627776]:=by
 have hw:word 4=[112,114,111,98,101]:=rfl;have hl:least 4=1:=rfl;have hm:most 4=1099511627776:=rfl;simp [bD,mK,hw,hl,hm]
theorem RH (bc:Nat):bD bc 5=#[.string ⟨#[108,111,115,115]⟩,↑(κ bc 5),↑ζ,.int .u64 1000]:=by
 have hw:word 5=[108,111,115,115]:=rfl;have hl:least 5=0:=rfl;have hm:most 5=1000:=rfl;simp [bD,mK,hw,hl,hm]
theorem cQ {β:Type} {J:β→World→Prop} (h:AbidesFrom B J) {s:β} (o:Obj) (hs:J s W):J s (W.alloc o):=
 h s W _ none hs (World.grownBy_alloc W o none) (fun r e=>by cases e)
theorem rU {β:Type} {J:β→World→Prop} (h:AbidesFrom B J) {s:β} (hs:J s W):J s W.drew:=
 h s W _ none hs (dP (bS W none)) (fun r e=>by cases e)
theorem d7 (k:Nat):all6.take k <+:all6:=List.take_prefix k all6
def NL (n l bc:Nat) (J Jx:List (Fin 6)→World→Prop):Prop:=
 ∀pre x W1,J pre W1→pre.length < 6→YieldAt Fence.wide (n - 1) prog l #[.agg (bD bc x)] W1 fun e W'=>
   (e=.returned (.bool true)∧J (pre ++ [x]) W'∧Kf W1 W')∨(e=.returned (.bool false)∧Jx (pre ++ [x]) W')
def RI (bT bc:Nat) (J:List (Fin 6)→World→Prop) (i:Value) (wr:World):Prop:=
 ∃k:Nat,k≤6∧i=.int .i64 k∧J (all6.take k) wr∧Blk wr bT 241 (CH bc)
theorem uJ (n l Bc bc:Nat) (hn:1≤n) (J Jx:List (Fin 6)→World→Prop) (W:World) (hB:Boxed W Bc 238 ↑(π bc))
  (hJ:AbidesFrom W.heap.size J) (hY:NL n l bc J Jx) (h0:J [] W):
  CallsIn Fence.wide n prog 194 #[.func (.yield l) #[] #[],↑(π Bc)] W fun e W'=>(∃v,e=.returned v)∧((∃xs,xs=all6∧J xs W')∨(∃pre,pre <+:all6∧Jx pre W')):=by
 have hc:=hB.cell;have hlt:=hB.lt;have HB:=lh hB;have HJ:=lh hJ;have HY:=lh hY;have H0:=lh h0;clear hB hJ hY h0;refine callsIn_of_wp func194 rfl trivial ?_ rfl;simp only [ntmps194,List.size_toArray,List.length_cons,List.length_nil,Nat.reduceAdd,Nat.reduceSub,Array.replicate_succ,Array.replicate_zero,List.push_toArray,List.append_toArray,List.nil_append,List.cons_append]
 gi_wp2
 refine wpIn_wide.2 ?_;go_region_held3 (fun w'=>w'.cell? ⟨Bc,0,none⟩=some ↑(π bc)) (first | go_keep) (fail)
 have HT:=lh ((Blk.new W 241 (CH bc)).drew);have H1:=lh (rU HJ.out (cQ HJ.out (.cells (CH bc) 241) H0.out));have hft:CH bc=#[.string ⟨#[109,115,115]⟩,↑(π bc),.int .u64 1,.int .u64 65535,.string ⟨#[105,110,105,116]⟩,↑(κ bc 1),.int .u64 4,.int .u64 1000,.string ⟨#[114,101,111,114,100,101,114]⟩,↑(κ bc 2),.int .u64 1,.int .u64 100,.string ⟨#[119,105,110,100,111,119]⟩,↑(κ bc 3),.int .u64 1,.int .u64 1099511627776,.string ⟨#[112,114,111,98,101]⟩,↑(κ bc 4),.int .u64 1,.int .u64 1099511627776,.string ⟨#[108,111,115,115]⟩,↑(κ bc 5),↑ζ,.int .u64 1000]:=rfl;rw [← hft];clear hft;generalize (W.alloc (.cells (CH bc) 241)).drew=w2 at *;generalize W.heap.size=bT at *;clear HB H0 hc hlt
 gi_wp2
 gi_loopw [31] (RI bT bc J) (fun i _=>6 - (intOf i).toNat)
 case atStart=>exact ⟨0,by omega,rfl,H1.out,HT.out⟩
 case round=>
  obtain ⟨k,hk,rfl,hJk,hT⟩:=hrel;have HJk:=lh hJk;have HTk:=lh hT;clear hJk hT HT H1;by_cases hlt:k < 6
  ·have H:k=0∨k=1∨k=2∨k=3∨k=4∨k=5:=by omega
   clear hk hlt;rcases H with rfl | rfl | rfl | rfl | rfl | rfl
   ·have c0:=HTk.out.cell (i:=0) (v:=.string ⟨#[109,115,115]⟩) rfl
    have c1:=HTk.out.cell (i:=1) (v:=↑(π bc)) rfl;have c2:=HTk.out.cell (i:=2) (v:=.int .u64 1) rfl;have c3:=HTk.out.cell (i:=3) (v:=.int .u64 65535) rfl;obtain ⟨fn,tmps,assign,body,hy,hR⟩:=HY.out (all6.take 0) 0 (wr.alloc (.cells (bD bc 0) 241)) (cQ HJ.out _ HJk.out) (by decide);rw [RC] at hy hR
    gi_wp2
    refine hR.mono ?_;rintro e W3 (⟨rfl,hJ3,hk3⟩ | ⟨rfl,hJx3⟩)
    ·have HJ3:=lh hJ3
     have HT3:=lh (hk3.same _ _ (HTk.out.alloc _));clear hJ3 hk3 hR hy HY
     gi_wp2
     go_roundw
     case rel=>exact ⟨1,by omega,rfl,HJ3.out,HT3.out⟩
     case measure=>simp [intOf]
    ·have HJ3:=lh hJx3
     clear hJx3 hR hy HY
     gi_wp2
     refine bodyPost_ret (results_none rfl _ _ _) rfl ?_;exact ⟨⟨_,rfl⟩,.inr ⟨_,d7 1,HJ3.out⟩⟩
   ·have c0:=HTk.out.cell (i:=4) (v:=.string ⟨#[105,110,105,116]⟩) rfl
    have c1:=HTk.out.cell (i:=5) (v:=↑(κ bc 1)) rfl;have c2:=HTk.out.cell (i:=6) (v:=.int .u64 4) rfl;have c3:=HTk.out.cell (i:=7) (v:=.int .u64 1000) rfl;obtain ⟨fn,tmps,assign,body,hy,hR⟩:=HY.out (all6.take 1) 1 (wr.alloc (.cells (bD bc 1) 241)) (cQ HJ.out _ HJk.out) (by decide);rw [RD] at hy hR
    gi_wp2
    refine hR.mono ?_;rintro e W3 (⟨rfl,hJ3,hk3⟩ | ⟨rfl,hJx3⟩)
    ·have HJ3:=lh hJ3
     have HT3:=lh (hk3.same _ _ (HTk.out.alloc _));clear hJ3 hk3 hR hy HY
     gi_wp2
     go_roundw
     case rel=>exact ⟨2,by omega,rfl,HJ3.out,HT3.out⟩
     case measure=>simp [intOf]
    ·have HJ3:=lh hJx3
     clear hJx3 hR hy HY
     gi_wp2
     refine bodyPost_ret (results_none rfl _ _ _) rfl ?_;exact ⟨⟨_,rfl⟩,.inr ⟨_,d7 2,HJ3.out⟩⟩
   ·have c0:=HTk.out.cell (i:=8) (v:=.string ⟨#[114,101,111,114,100,101,114]⟩) rfl
    have c1:=HTk.out.cell (i:=9) (v:=↑(κ bc 2)) rfl;have c2:=HTk.out.cell (i:=10) (v:=.int .u64 1) rfl;have c3:=HTk.out.cell (i:=11) (v:=.int .u64 100) rfl;obtain ⟨fn,tmps,assign,body,hy,hR⟩:=HY.out (all6.take 2) 2 (wr.alloc (.cells (bD bc 2) 241)) (cQ HJ.out _ HJk.out) (by decide);rw [RE] at hy hR
    gi_wp2
    refine hR.mono ?_;rintro e W3 (⟨rfl,hJ3,hk3⟩ | ⟨rfl,hJx3⟩)
    ·have HJ3:=lh hJ3
     have HT3:=lh (hk3.same _ _ (HTk.out.alloc _));clear hJ3 hk3 hR hy HY
     gi_wp2
     go_roundw
     case rel=>exact ⟨3,by omega,rfl,HJ3.out,HT3.out⟩
     case measure=>simp [intOf]
    ·have HJ3:=lh hJx3
     clear hJx3 hR hy HY
     gi_wp2
     refine bodyPost_ret (results_none rfl _ _ _) rfl ?_;exact ⟨⟨_,rfl⟩,.inr ⟨_,d7 3,HJ3.out⟩⟩
   ·have c0:=HTk.out.cell (i:=12) (v:=.string ⟨#[119,105,110,100,111,119]⟩) rfl
    have c1:=HTk.out.cell (i:=13) (v:=↑(κ bc 3)) rfl;have c2:=HTk.out.cell (i:=14) (v:=.int .u64 1) rfl;have c3:=HTk.out.cell (i:=15) (v:=.int .u64 1099511627776) rfl;obtain ⟨fn,tmps,assign,body,hy,hR⟩:=HY.out (all6.take 3) 3 (wr.alloc (.cells (bD bc 3) 241)) (cQ HJ.out _ HJk.out) (by decide);rw [RF] at hy hR
    gi_wp2
    refine hR.mono ?_;rintro e W3 (⟨rfl,hJ3,hk3⟩ | ⟨rfl,hJx3⟩)
    ·have HJ3:=lh hJ3
     have HT3:=lh (hk3.same _ _ (HTk.out.alloc _));clear hJ3 hk3 hR hy HY
     gi_wp2
     go_roundw
     case rel=>exact ⟨4,by omega,rfl,HJ3.out,HT3.out⟩
     case measure=>simp [intOf]
    ·have HJ3:=lh hJx3
     clear hJx3 hR hy HY
     gi_wp2
     refine bodyPost_ret (results_none rfl _ _ _) rfl ?_;exact ⟨⟨_,rfl⟩,.inr ⟨_,d7 4,HJ3.out⟩⟩
   ·have c0:=HTk.out.cell (i:=16) (v:=.string ⟨#[112,114,111,98,101]⟩) rfl
    have c1:=HTk.out.cell (i:=17) (v:=↑(κ bc 4)) rfl;have c2:=HTk.out.cell (i:=18) (v:=.int .u64 1) rfl;have c3:=HTk.out.cell (i:=19) (v:=.int .u64 1099511627776) rfl;obtain ⟨fn,tmps,assign,body,hy,hR⟩:=HY.out (all6.take 4) 4 (wr.alloc (.cells (bD bc 4) 241)) (cQ HJ.out _ HJk.out) (by decide);rw [RG] at hy hR
    gi_wp2
    refine hR.mono ?_;rintro e W3 (⟨rfl,hJ3,hk3⟩ | ⟨rfl,hJx3⟩)
    ·have HJ3:=lh hJ3
     have HT3:=lh (hk3.same _ _ (HTk.out.alloc _));clear hJ3 hk3 hR hy HY
     gi_wp2
     go_roundw
     case rel=>exact ⟨5,by omega,rfl,HJ3.out,HT3.out⟩
     case measure=>simp [intOf]
    ·have HJ3:=lh hJx3
     clear hJx3 hR hy HY
     gi_wp2
     refine bodyPost_ret (results_none rfl _ _ _) rfl ?_;exact ⟨⟨_,rfl⟩,.inr ⟨_,d7 5,HJ3.out⟩⟩
   ·have c0:=HTk.out.cell (i:=20) (v:=.string ⟨#[108,111,115,115]⟩) rfl
    have c1:=HTk.out.cell (i:=21) (v:=↑(κ bc 5)) rfl;have c2:=HTk.out.cell (i:=22) (v:=↑ζ) rfl;have c3:=HTk.out.cell (i:=23) (v:=.int .u64 1000) rfl;obtain ⟨fn,tmps,assign,body,hy,hR⟩:=HY.out (all6.take 5) 5 (wr.alloc (.cells (bD bc 5) 241)) (cQ HJ.out _ HJk.out) (by decide);rw [RH] at hy hR
    gi_wp2
    refine hR.mono ?_;rintro e W3 (⟨rfl,hJ3,hk3⟩ | ⟨rfl,hJx3⟩)
    ·have HJ3:=lh hJ3
     have HT3:=lh (hk3.same _ _ (HTk.out.alloc _));clear hJ3 hk3 hR hy HY
     gi_wp2
     go_roundw
     case rel=>exact ⟨6,by omega,rfl,HJ3.out,HT3.out⟩
     case measure=>simp [intOf]
    ·have HJ3:=lh hJx3
     clear hJx3 hR hy HY
     gi_wp2
     refine bodyPost_ret (results_none rfl _ _ _) rfl ?_;exact ⟨⟨_,rfl⟩,.inr ⟨_,d7 6,HJ3.out⟩⟩
  ·have hk6:k=6:=by omega
   subst hk6
   gi_wp2
   go_end0
   exact ⟨⟨_,rfl⟩,.inl ⟨all6,rfl,HJk.out⟩⟩
theorem pU (n Bc bc:Nat) (hn:1≤n) (w:World) (hB:Boxed w Bc 238 ↑(π bc)):
  SeqStopsK Fence.wide n prog 194 #[↑(π Bc)] (fun k:Fin 6=>#[Value.agg (bD bc k)]) Kf (fun xs=>xs=all6) (fun pre=>pre <+:all6) 6 w:=fun l J Jx W hW hJ _ hY h0=>
 uJ n l Bc bc hn J Jx W (Blk.keep hB hW) hJ hY h0
theorem yJ (n bc:Nat) (w:World):
  CallsIn Fence.wide n prog 145 #[↑(π bc)] w fun e w'=>e=.returned (.func (.func 194) #[] #[↑(π w.heap.size)])∧w'=w.alloc (.cells #[↑(π bc)] 238):=by
 refine callsIn_of_wp func145 rfl trivial ?_ rfl;simp only [ntmps145,List.size_toArray,List.length_cons,List.length_nil,Nat.reduceAdd,Nat.reduceSub,Array.replicate_succ,Array.replicate_zero,List.push_toArray,List.append_toArray,List.nil_append,List.cons_append]
 gi_wp2
 go_ret;exact ⟨rfl,rfl⟩
end

section
open Go.RowKit Go.Shelf Cf
attribute [local go_sem] Oper.semAt_some
def aL (c:Setup):Array Value:=#[↑(c 0),↑(c 1),↑(c 2),↑(c 3),↑(c 4),↑(c 5)]
theorem mL {c:Setup} (h:Blk W b T (aL c)) (k:Fin 6):W.cell? ⟨b,k.val,none⟩=some ↑(c k):=
 h.cell (fin6 (fun k=>(aL c)[k.val]? =some (.int .u64 (c k:Int))) rfl rfl rfl rfl rfl rfl k)
theorem mM (W:World) (n:Nat):KeepsOthers W (W.drewN n):=⟨Nat.le_refl _,fun _ _ h _=>h⟩
theorem Blk.drewN {W:World} {b:Nat} {T:TypeId} {cs:Array Value} (h:Blk W b T cs) (n:Nat):Blk (W.drewN n) b T cs:=h
theorem iA {v:Value} (h:Boxed W b T v) (n:Nat):Boxed (W.drewN n) b T v:=h
theorem Kf.drewN (W:World) (n:Nat):Kf W (W.drewN n):=⟨Nat.le_refl _,fun _ _ h=>h⟩
theorem kT (h:Below B A W) (n:Nat):Below B A (W.drewN n):=⟨h.os,h.tape,h.output,h.size,h.block⟩
theorem CI (x:Fin 6):x∈all6:=by revert x;decide
theorem oM {c:Setup} {x:Fin 6} (h:fits c x=false):rightC c=false:=by
 unfold rightC;rw [List.all_eq_false];exact ⟨x,CI x,by simp [h]⟩
theorem CJ {c:Setup} {x:Fin 6} {pre:List (Fin 6)} (h:pre.all (fits c)=true) (hx:fits c x=true):(pre ++ [x]).all (fits c)=true:=by
 rw [List.all_append,h];simp [hx]
theorem wH {β:Type} (B:Nat) (t:TypeId) (f:β→Array Value):Own (fun s W=>Blk W B t (f s)):=fun s X Y row hs hg hrow=>
 hs.grown hg (fun e=>by
  obtain ⟨o,ho,hc⟩:=hrow B e.symm;unfold Blk at hs;rw [hs] at ho;cases ho;cases hc)
theorem uK (c:Setup) (hc:∀k,c k≤↑ω) (w:World):
  Calls prog 94 #[.agg (aL c)] w fun e w'=>e=.returned (.bool (rightC c))∧Below ↑w w w':=by
 refine (callsIn_wide (n:=6)).1 ?_;refine callsIn_of_wp_marks func94 rfl trivial ?_ rfl;simp only [ntmps94,List.size_toArray,List.length_cons,List.length_nil,Nat.reduceAdd,Nat.reduceSub,Array.replicate_succ,Array.replicate_zero,List.push_toArray,List.append_toArray,List.nil_append,List.cons_append]
 gi_wp2_with (refine ⟨trivial,?_⟩;gi_at_call 145;refine (yJ _ _ _).mono ?_;rintro e w' ⟨rfl,rfl⟩)
 have HC:=lh hc;clear hc;have bC:=(((Blk.new w 24 (aL c)).alloc (.cells #[.bool false] 4)).alloc (.cells #[↑(π w.heap.size)] 238));have bR:=(Boxed.new (w.alloc (.cells (aL c) 24)) 4 (.bool false)).alloc (.cells #[↑(π w.heap.size)] 238);have bF:=Boxed.new ((w.alloc (.cells (aL c) 24)).alloc (.cells #[.bool false] 4)) 238 ↑(π w.heap.size);have hB0:Below ↑w w (((w.alloc (.cells (aL c) 24)).alloc (.cells #[.bool false] 4)).alloc (.cells #[↑(π w.heap.size)] 238)):=(((Below.refl _ w).alloc (Nat.le_refl _) _).alloc (by simp) _).alloc (by simp;omega) _;simp only [World.size_alloc] at bC bR bF;refine wpIn_rangeFunc_ownH rfl (by omega) (gf:=194) (lb:=#[↑(π (w.heap.size + 1 + 1))]) rfl trivial (enters_of func194 (by kernel_rfl) rfl)
  (pU 5 (w.heap.size + 1 + 1) w.heap.size (by omega) _ bF) Kf.trans Kf.putObj (Below.refl _ _) (fun _=>rfl)
  (fun pre W=>((Blk W w.heap.size 24 (aL c)∧Boxed W (w.heap.size + 1) 4 (.bool false))∧pre.all (fits c)=true)∧Below ↑w w W)
  (fun cd pre W=>((cd=.ret∧rightC c=false)∧Boxed W (w.heap.size + 1) 4 (.bool false))∧Below ↑w w W)
  (OwnFrom.and (OwnFrom.and (OwnFrom.and (Own.from (wH _ _ _) _) (Own.from (boxed_own _ _ _) _)) (ownFrom_pure _ _)) (ownFrom_below (Nat.le_refl _) (by simp;omega)))
  (fun cd=>OwnFrom.and (OwnFrom.and (ownFrom_pure _ _) (Own.from (boxed_own _ _ _) _)) (ownFrom_below (Nat.le_refl _) (by simp;omega)))
  ⟨⟨⟨bC,bR⟩,rfl⟩,hB0⟩
  (fun x a' W=>∃Bx,Blk W Bx 241 (bD w.heap.size x)∧a'={tmps:=#[.agg (aL c),↑(π w.heap.size),↑(π (w.heap.size + 1)),↑(π Bx),.func (.func 194) #[] #[↑(π (w.heap.size + 1 + 1))],.agg (bD w.heap.size x),undef,undef,undef,undef,undef,undef,undef,undef,undef,undef,undef,undef,undef,undef,undef,undef],defers:=[]})
  (fun x a' _ X Y row hs hg hr=>by obtain ⟨Bx,h2,h3⟩:=hs;exact ⟨Bx,wH Bx 241 (fun (_:Unit)=>bD w.heap.size x) () X Y row h2 hg (fun r e=>(hr r e).2),h3⟩)
  ?assign ?body ?done ?stop
 case assign=>
  rintro l pre x W K ⟨⟨⟨h1,h2⟩,h3⟩,h4⟩ hK;have H1:=lh h1;have H2:=lh h2;have H3:=lh h3;have H4:=lh h4;clear h1 h2 h3 h4;simp only [bD] at hK ⊢
  gi_wp2
  exact hK _ _ ((KeepsOthers.alloc _ _).from _) (Kf.alloc _ _) ⟨⟨⟨H1.out.alloc _,H2.out.alloc _⟩,H3.out⟩,H4.out.alloc H4.out.size _⟩ ⟨W.heap.size,Blk.new W _ _,rfl⟩
 case body=>
  rintro l pre x a' W hl ⟨r,hr⟩ ⟨⟨⟨h1,h2⟩,h3⟩,h4⟩ ⟨Bx,hX,rfl⟩ hlt;have hn:=mL h1 x;have f1:=hX.cell (i:=1) (v:=↑(κ w.heap.size x.val)) rfl;have f2:=hX.cell (i:=2) (v:=↑(least x)) rfl;have f3:=hX.cell (i:=3) (v:=↑(most x)) rfl;have r1:=h2.cell;have r2:=h2.frozen;have H1:=lh h1;have H2:=lh h2;have H3:=lh h3;have H4:=lh h4;have HX:=lh hX;have HF:=lh (show fits c x=decide (least x≤c x∧c x≤most x) from rfl);clear h1 h2 h3 h4 hX hr hl hlt bC bR bF hB0 HC;simp only [bD];generalize c x=n at *;generalize least x=lo at *;generalize most x=hi at *;by_cases hlo:n < lo
  ·have d1:decide (n < lo)=true:=by simpa using hlo
   refine wpIn_block (wpIn_seq_k (fun K hK=>?_));refine dW (by rintro ⟨_,_,h⟩;exact h) (by kernel_rfl) (by kernel_rfl) (by kernel_rfl) ?_;repeat (go_big_quiet_step (fail))
   refine wpQuiet_nil ?_;intro _ hw';obtain ⟨nq,hw''⟩:=hw';subst hw'';refine hK _ _ ?_;clear hK
   gi_wp2
   have hx:fits c x=false:=by rw [HF.out];simp;omega
   exact ⟨((mM W nq).trans (KeepsOthers.setCell _ _ _)).from _,⟨⟨rfl,oM hx⟩,(iA H2.out nq).set _⟩,(kT H4.out nq).setCell (p:=⟨w.heap.size + 1,0,none⟩) (by simp) _⟩
  ·have d1:decide (n < lo)=false:=by simpa using hlo
   by_cases hhi:hi < n
   ·have d2:decide (hi < n)=true:=by simpa using hhi
    refine wpIn_block (wpIn_seq_k (fun K hK=>?_));refine dW (by rintro ⟨_,_,h⟩;exact h) (by kernel_rfl) (by kernel_rfl) (by kernel_rfl) ?_;repeat (go_big_quiet_step (fail))
    refine wpQuiet_nil ?_;intro _ hw';obtain ⟨nq,hw''⟩:=hw';subst hw'';refine hK _ _ ?_;clear hK
    gi_wp2
    have hx:fits c x=false:=by rw [HF.out];simp;omega
    exact ⟨((mM W nq).trans (KeepsOthers.setCell _ _ _)).from _,⟨⟨rfl,oM hx⟩,(iA H2.out nq).set _⟩,(kT H4.out nq).setCell (p:=⟨w.heap.size + 1,0,none⟩) (by simp) _⟩
   ·have d2:decide (hi < n)=false:=by simpa using hhi
    refine wpIn_block (wpIn_seq_k (fun K hK=>?_));refine dW (by rintro ⟨_,_,h⟩;exact h) (by kernel_rfl) (by kernel_rfl) (by kernel_rfl) ?_;repeat (go_big_quiet_step (fail))
    refine wpQuiet_nil ?_;intro _ hw';obtain ⟨nq,hw''⟩:=hw';subst hw'';refine hK _ _ ?_;clear hK
    gi_wp2
    have hx:fits c x=true:=by rw [HF.out];simp;omega
    exact ⟨(mM W nq).from _,Kf.drewN W nq,⟨⟨H1.out.drewN nq,iA H2.out nq⟩,CJ H3.out hx⟩,kT H4.out nq⟩
 case done=>
  rintro D xs W hD rfl ⟨⟨⟨h1,h2⟩,h3⟩,h4⟩ hK;have r1:=h2.cell;have r2:=h2.frozen;have H2:=lh h2;have H3:=lh h3;have H4:=lh h4;have HK:=lh hK;have HD:=lh hD;clear h1 h2 h3 h4 hK hD bC bR bF hB0 HC
  gi_wp2
  have hK':=(KeepsOthers.setCell W ⟨w.heap.size + 1,0,none⟩ (.bool true)).same D _ HK.out rfl;refine ⟨by simp,.inl ⟨_,_,rfl,run_takeDeferred hK',?_⟩⟩;have hc5:=cell_kept (World.cell?_setCell_same' W ⟨w.heap.size + 1,0,none⟩ (.bool true) (by rw [r1];rfl)) (grownBy_putObj' _ D (.deferred none)) (fun r e=>by cases e;exact ⟨_,hK',rfl⟩);refine ⟨.bool true,?_,by rw [show rightC c=true from H3.out],(H4.out.setCell (p:=⟨w.heap.size + 1,0,none⟩) (by simp) _).trans (belowK_b (w:=w) (Nat.le_refl _) _ D _ _ (by have:=HD.out;simp at this;omega) hK' rfl rfl)⟩;simp [results,Tryz.f94,go_sem,hc5]
 case stop=>
  rintro D cd pre W hD _ ⟨⟨⟨rfl,h1⟩,h2⟩,h4⟩ hK;have r1:=h2.cell;have H1:=lh h1;have H4:=lh h4;have HK:=lh hK;have HD:=lh hD;clear h1 h2 h4 hK hD bC bR bF hB0 HC
  gi_wp2
  refine ⟨by simp,.inl ⟨_,_,rfl,run_takeDeferred HK.out,?_⟩⟩;have hc5:=cell_kept r1 (grownBy_putObj' _ D (.deferred none)) (fun r e=>by cases e;exact ⟨_,HK.out,rfl⟩);refine ⟨.bool false,?_,by rw [H1.out],H4.out.trans (belowK_b (w:=w) (Nat.le_refl _) W D _ _ (by have:=HD.out;simp at this;omega) HK.out rfl rfl)⟩;simp [results,Tryz.f94,go_sem,hc5]
end

section
open Go.RowKit Go.Shelf Cf
theorem mN (n lo hi:Nat) (w:World):Calls prog 34 #[↑n,↑lo,↑hi] w fun e w'=>e=.returned (.bool (decide (lo≤n∧n≤hi)))∧w'=w:=by
 by_cases h1:lo≤n
 ·have d1:decide (lo≤n)=true:=by simpa using h1
  by_cases h2:n≤hi
  ·have d2:decide (n≤hi)=true:=by simpa using h2
   go_enter func34,ntmps34;go_wp2;go_ret;exact ⟨by simp [h1,h2],rfl⟩
  ·have d2:decide (n≤hi)=false:=by simpa using h2
   go_enter func34,ntmps34;go_wp2;go_ret;exact ⟨by simp [h2],rfl⟩
 ·have d1:decide (lo≤n)=false:=by simpa using h1
  go_enter func34,ntmps34;go_wp2;go_ret;exact ⟨by simp [h1],rfl⟩
theorem yL (c:Setup):rightC c=(fits c 0 && (fits c 1 && (fits c 2 && (fits c 3 && (fits c 4 && fits c 5))))):=by
 simp [rightC,all6]
theorem yM (c:Setup) (w:World):
  Calls prog 9 #[.agg (aL c)] w fun e w'=>e=.returned (.bool (rightC c))∧Below ↑w w w':=by
 have h0:∀w',Calls prog 34 #[↑(c 0),.int .u64 1,.int .u64 65535] w' fun e w''=>e=.returned (.bool (fits c 0))∧w''=w':=fun w'=>mN (c 0) 1 65535 w';have h1:∀w',Calls prog 34 #[↑(c 1),.int .u64 4,.int .u64 1000] w' fun e w''=>e=.returned (.bool (fits c 1))∧w''=w':=fun w'=>mN (c 1) 4 1000 w';have h2:∀w',Calls prog 34 #[↑(c 2),.int .u64 1,.int .u64 100] w' fun e w''=>e=.returned (.bool (fits c 2))∧w''=w':=fun w'=>mN (c 2) 1 100 w';have h3:∀w',Calls prog 34 #[↑(c 3),.int .u64 1,.int .u64 1099511627776] w' fun e w''=>e=.returned (.bool (fits c 3))∧w''=w':=fun w'=>mN (c 3) 1 1099511627776 w';have h4:∀w',Calls prog 34 #[↑(c 4),.int .u64 1,.int .u64 1099511627776] w' fun e w''=>e=.returned (.bool (fits c 4))∧w''=w':=fun w'=>mN (c 4) 1 1099511627776 w';have h5:decide ((c 5:Int)≤1000)=fits c 5:=by
  unfold fits;rw [show least 5=0 from rfl,show most 5=1000 from rfl];by_cases h:c 5≤1000 <;> simp [h] <;> omega
 have H0:=lh h0;have H1:=lh h1;have H2:=lh h2;have H3:=lh h3;have H4:=lh h4;rw [yL];clear h0 h1 h2 h3 h4;generalize fits c 0=b0 at *;generalize fits c 1=b1 at *;generalize fits c 2=b2 at *;generalize fits c 3=b3 at *;generalize fits c 4=b4 at *;generalize fits c 5=b5 at *;simp only [aL];go_enter func9,ntmps9;go_wp2_with fail;refine (H0.out _).mono ?_;rintro e w1 ⟨rfl,rfl⟩;cases b0 with
 | false=>
   go_wp2_with fail;go_ret;exact ⟨rfl,(Below.refl _ _).alloc (Nat.le_refl _) _⟩
 | true=>
   go_wp2_with fail;refine (H1.out _).mono ?_;rintro e w1 ⟨rfl,rfl⟩;cases b1 with
   | false=>
     go_wp2_with fail;go_ret;exact ⟨rfl,(Below.refl _ _).alloc (Nat.le_refl _) _⟩
   | true=>
     go_wp2_with fail;refine (H2.out _).mono ?_;rintro e w1 ⟨rfl,rfl⟩;cases b2 with
     | false=>
       go_wp2_with fail;go_ret;exact ⟨rfl,(Below.refl _ _).alloc (Nat.le_refl _) _⟩
     | true=>
       go_wp2_with fail;refine (H3.out _).mono ?_;rintro e w1 ⟨rfl,rfl⟩;cases b3 with
       | false=>
         go_wp2_with fail;go_ret;exact ⟨rfl,(Below.refl _ _).alloc (Nat.le_refl _) _⟩
       | true=>
         go_wp2_with fail;refine (H4.out _).mono ?_;rintro e w1 ⟨rfl,rfl⟩;cases b4 with
         | false=>
           go_wp2_with fail;go_ret;exact ⟨rfl,(Below.refl _ _).alloc (Nat.le_refl _) _⟩
         | true=>
           cases b5 with
           | false=>
             go_wp2_with fail;go_ret;exact ⟨by simp_all,(Below.refl _ _).alloc (Nat.le_refl _) _⟩
           | true=>
             go_wp2_with fail;go_ret;exact ⟨by simp_all,(Below.refl _ _).alloc (Nat.le_refl _) _⟩
end
end Go.Proofs.YtjhiooggnpbecaaGreatDoor
