/- 3 texts put together: what each one says stands ahead of it. -/
import Derived.RangeFuncNested
import Derived.RangeFuncBound
import Derived.RangeFuncCalls
import Derived.RangeFuncLeaves
import Derived.Shelf.Abstract
import Derived.Shelf.RegionOpen
import Derived.WalkKit
import Derived.OwnWalkIn
import Derived.TacticsInMore
import Derived.LoopNIn
import Derived.LoopIn
import Derived.Outline
import Derived.Lib.Hide
import Derived.Deep.RegionHeld3
import Derived.Test.YteoepabmnbkabaaGreatDoorProg
import Derived.Test.YteoepabmnbkabaaGreatDoorKS02
import Derived.Test.YteoepabmnbkabaaGreatDoorKS08
import Derived.Test.YteoepabmnbkabaaGreatDoorKS09
set_option linter.unusedVariables false
namespace Go.Proofs.YteoepabmnbkabaaGreatDoor
open Go.RowKit Go.Shelf Cf
attribute [local go_sem] Oper.semAt_some
structure Kf (W W':World):Prop where
 size:W.heap.size≤W'.heap.size
 same:∀k cs,Blk W k 220 cs→Blk W' k 220 cs
theorem Kf.refl (W:World):Kf W W:=⟨Nat.le_refl _,fun _ _ h=>h⟩
theorem Kf.trans {A B C:World} (h:Kf A B) (k:Kf B C):Kf A C:=⟨Nat.le_trans h.size k.size,fun i cs hi=>k.same i cs (h.same i cs hi)⟩
theorem Kf.below {W W':World} (h:Below W.heap.size W W'):Kf W W':=⟨h.size,fun k cs hk=>hk.keep h⟩
theorem Kf.alloc (W:World) (o:Obj):Kf W (W.alloc o):=⟨by simp,fun k cs hk=>hk.alloc o⟩
theorem Kf.grown {W W':World} {row:Option Nat} (hg:W.grownBy W' row) (hne:∀r,row=some r→∀cs,¬ Blk W r 220 cs):Kf W W':=
 ⟨hg.size,fun k cs hk=>hk.grown hg (fun e=>hne k e.symm cs hk)⟩
theorem Kf.set {W:World} {b:Nat} (i:Nat) (u:Value) (hne:∀cs,¬ Blk W b 220 cs):Kf W (W.setCell ⟨b,i,none⟩ u):=
 ⟨by simp [World.setCell],fun k cs hk=>hk.set_other i u (fun e=>hne cs (e▸hk))⟩
theorem Kf.putObj {w:World} (W:World) (l:Nat) (o o':Obj) (_:w.heap.size≤l) (h:W.heap[l]? =some o) (ho:o.isCells=false) (_:o.isWalk=false):Kf W (W.putObj l o'):=
 Kf.grown (grownBy_putObj' W l o') (fun r e cs hb=>by cases e;unfold Blk at hb;rw [h] at hb;cases hb;cases ho)
def wordB (k:Fin 6):ByteArray:=⟨(word k).toArray⟩
def itcells (bc:Nat) (k:Fin 6):Array Value:=#[.string (wordB k),.pointer (some ⟨bc,k.val,none⟩),.int .u64 (least k:Int),.int .u64 (most k:Int)]
def ftab (bc:Nat):Array Value:=#[.string ⟨#[109,115,115]⟩,.pointer (some ⟨bc,0,none⟩),.int .u64 1,.int .u64 65535,.string ⟨#[105,110,105,116]⟩,.pointer (some ⟨bc,1,none⟩),.int .u64 4,.int .u64 1000,.string ⟨#[114,101,111,114,100,101,114]⟩,.pointer (some ⟨bc,2,none⟩),.int .u64 1,.int .u64 100,.string ⟨#[119,105,110,100,111,119]⟩,.pointer (some ⟨bc,3,none⟩),.int .u64 1,.int .u64 1099511627776,.string ⟨#[112,114,111,98,101]⟩,.pointer (some ⟨bc,4,none⟩),.int .u64 1,.int .u64 1099511627776,.string ⟨#[108,111,115,115]⟩,.pointer (some ⟨bc,5,none⟩),.int .u64 0,.int .u64 1000]
theorem fc_0 (bc:Nat):itcells bc 0=#[.string ⟨#[109,115,115]⟩,.pointer (some ⟨bc,0,none⟩),.int .u64 1,.int .u64 65535]:=by
 have hw:word 0=[109,115,115]:=rfl
 have hl:least 0=1:=rfl
 have hm:most 0=65535:=rfl
 simp [itcells,wordB,hw,hl,hm]
theorem fc_1 (bc:Nat):itcells bc 1=#[.string ⟨#[105,110,105,116]⟩,.pointer (some ⟨bc,1,none⟩),.int .u64 4,.int .u64 1000]:=by
 have hw:word 1=[105,110,105,116]:=rfl
 have hl:least 1=4:=rfl
 have hm:most 1=1000:=rfl
 simp [itcells,wordB,hw,hl,hm]
theorem fc_2 (bc:Nat):itcells bc 2=#[.string ⟨#[114,101,111,114,100,101,114]⟩,.pointer (some ⟨bc,2,none⟩),.int .u64 1,.int .u64 100]:=by
 have hw:word 2=[114,101,111,114,100,101,114]:=rfl
 have hl:least 2=1:=rfl
 have hm:most 2=100:=rfl
 simp [itcells,wordB,hw,hl,hm]
theorem fc_3 (bc:Nat):itcells bc 3=#[.string ⟨#[119,105,110,100,111,119]⟩,.pointer (some ⟨bc,3,none⟩),.int .u64 1,.int .u64 1099511627776]:=by
 have hw:word 3=[119,105,110,100,111,119]:=rfl
 have hl:least 3=1:=rfl
 have hm:most 3=1099511627776:=rfl
 simp [itcells,wordB,hw,hl,hm]
theorem fc_4 (bc:Nat):itcells bc 4=#[.string ⟨#[112,114,111,98,101]⟩,.pointer (some ⟨bc,4,none⟩),.int .u64 1,.int .u64 1099511627776]:=by
 have hw:word 4=[112,114,111,98,101]:=rfl
 have hl:least 4=1:=rfl
 have hm:most 4=1099511627776:=rfl
 simp [itcells,wordB,hw,hl,hm]
theorem fc_5 (bc:Nat):itcells bc 5=#[.string ⟨#[108,111,115,115]⟩,.pointer (some ⟨bc,5,none⟩),.int .u64 0,.int .u64 1000]:=by
 have hw:word 5=[108,111,115,115]:=rfl
 have hl:least 5=0:=rfl
 have hm:most 5=1000:=rfl
 simp [itcells,wordB,hw,hl,hm]
theorem abides_alloc {β:Type} {B:Nat} {J:β→World→Prop} (h:AbidesFrom B J) {s:β} {W:World} (o:Obj) (hs:J s W):J s (W.alloc o):=
 h s W _ none hs (World.grownBy_alloc W o none) (fun r e=>by cases e)
theorem abides_drew {β:Type} {B:Nat} {J:β→World→Prop} (h:AbidesFrom B J) {s:β} {W:World} (hs:J s W):J s W.drew:=
 h s W _ none hs (gr_drew (gr_refl W none)) (fun r e=>by cases e)
theorem all6_prefix (k:Nat):all6.take k <+:all6:=List.take_prefix k all6
def Rounds (n l bc:Nat) (J Jx:List (Fin 6)→World→Prop):Prop:=
 ∀pre x W1,J pre W1→pre.length < 6→YieldAt Fence.wide (n - 1) Tryz.prog l #[.agg (itcells bc x)] W1 fun e W'=>
   (e=.returned (.bool true)∧J (pre ++ [x]) W'∧Kf W1 W')∨(e=.returned (.bool false)∧Jx (pre ++ [x]) W')
def FRel (bT bc:Nat) (J:List (Fin 6)→World→Prop) (i:Value) (wr:World):Prop:=
 ∃k:Nat,k≤6∧i=.int .i64 k∧J (all6.take k) wr∧Blk wr bT 220 (ftab bc)
set_option maxRecDepth 100000 in
set_option maxHeartbeats 2000000 in
theorem fields1_in (n l Bc bc:Nat) (hn:1≤n) (J Jx:List (Fin 6)→World→Prop) (W:World) (hB:Boxed W Bc 217 (.pointer (some ⟨bc,0,none⟩)))
  (hJ:AbidesFrom W.heap.size J) (hY:Rounds n l bc J Jx) (h0:J [] W):
  CallsIn Fence.wide n Tryz.prog 208 #[.func (.yield l) #[] #[],.pointer (some ⟨Bc,0,none⟩)] W fun e W'=>(∃v,e=.returned v)∧((∃xs,xs=all6∧J xs W')∨(∃pre,pre <+:all6∧Jx pre W')):=by
 have hc:=hB.cell
 have hlt:=hB.lt
 have HB:=Lib.hid hB
 have HJ:=Lib.hid hJ
 have HY:=Lib.hid hY
 have H0:=Lib.hid h0
 clear hB hJ hY h0
 refine callsIn_of_wp Tryz.func208 rfl trivial ?_ rfl
 simp only [Tryz.ntmps208,List.size_toArray,List.length_cons,List.length_nil,Nat.reduceAdd,Nat.reduceSub,Array.replicate_succ,Array.replicate_zero,List.push_toArray,List.append_toArray,List.nil_append,List.cons_append]
 gi_wp2
 refine wpIn_wide.2 ?_
 go_region_held3 (fun w'=>w'.cell? ⟨Bc,0,none⟩=some (.pointer (some ⟨bc,0,none⟩))) (first | go_keep) (fail)
 have HT:=Lib.hid ((Blk.new W 220 (ftab bc)).drew)
 have H1:=Lib.hid (abides_drew HJ.out (abides_alloc HJ.out (.cells (ftab bc) 220) H0.out))
 have hft:ftab bc=#[.string ⟨#[109,115,115]⟩,.pointer (some ⟨bc,0,none⟩),.int .u64 1,.int .u64 65535,.string ⟨#[105,110,105,116]⟩,.pointer (some ⟨bc,1,none⟩),.int .u64 4,.int .u64 1000,.string ⟨#[114,101,111,114,100,101,114]⟩,.pointer (some ⟨bc,2,none⟩),.int .u64 1,.int .u64 100,.string ⟨#[119,105,110,100,111,119]⟩,.pointer (some ⟨bc,3,none⟩),.int .u64 1,.int .u64 1099511627776,.string ⟨#[112,114,111,98,101]⟩,.pointer (some ⟨bc,4,none⟩),.int .u64 1,.int .u64 1099511627776,.string ⟨#[108,111,115,115]⟩,.pointer (some ⟨bc,5,none⟩),.int .u64 0,.int .u64 1000]:=rfl
 rw [← hft]
 clear hft
 generalize (W.alloc (.cells (ftab bc) 220)).drew=w2 at *
 generalize W.heap.size=bT at *
 clear HB H0 hc hlt
 gi_wp2
 gi_loopw [31] (FRel bT bc J) (fun i _=>6 - (intOf i).toNat)
 case atStart=>exact ⟨0,by omega,rfl,H1.out,HT.out⟩
 case round=>
  obtain ⟨k,hk,rfl,hJk,hT⟩:=hrel
  have HJk:=Lib.hid hJk
  have HTk:=Lib.hid hT
  clear hJk hT HT H1
  by_cases hlt:k < 6
  ·have H:k=0∨k=1∨k=2∨k=3∨k=4∨k=5:=by omega
   clear hk hlt
   rcases H with rfl | rfl | rfl | rfl | rfl | rfl
   ·have c0:=HTk.out.cell (i:=0) (v:=.string ⟨#[109,115,115]⟩) rfl
    have c1:=HTk.out.cell (i:=1) (v:=.pointer (some ⟨bc,0,none⟩)) rfl
    have c2:=HTk.out.cell (i:=2) (v:=.int .u64 1) rfl
    have c3:=HTk.out.cell (i:=3) (v:=.int .u64 65535) rfl
    obtain ⟨fn,tmps,assign,body,hy,hR⟩:=HY.out (all6.take 0) 0 (wr.alloc (.cells (itcells bc 0) 220)) (abides_alloc HJ.out _ HJk.out) (by decide)
    rw [fc_0] at hy hR
    gi_wp2
    refine hR.mono ?_
    rintro e W3 (⟨rfl,hJ3,hk3⟩ | ⟨rfl,hJx3⟩)
    ·have HJ3:=Lib.hid hJ3
     have HT3:=Lib.hid (hk3.same _ _ (HTk.out.alloc _))
     clear hJ3 hk3 hR hy HY
     gi_wp2
     go_roundw
     case rel=>exact ⟨1,by omega,rfl,HJ3.out,HT3.out⟩
     case measure=>simp [intOf]
    ·have HJ3:=Lib.hid hJx3
     clear hJx3 hR hy HY
     gi_wp2
     refine bodyPost_ret (results_none rfl _ _ _) rfl ?_
     exact ⟨⟨_,rfl⟩,.inr ⟨_,all6_prefix 1,HJ3.out⟩⟩
   ·have c0:=HTk.out.cell (i:=4) (v:=.string ⟨#[105,110,105,116]⟩) rfl
    have c1:=HTk.out.cell (i:=5) (v:=.pointer (some ⟨bc,1,none⟩)) rfl
    have c2:=HTk.out.cell (i:=6) (v:=.int .u64 4) rfl
    have c3:=HTk.out.cell (i:=7) (v:=.int .u64 1000) rfl
    obtain ⟨fn,tmps,assign,body,hy,hR⟩:=HY.out (all6.take 1) 1 (wr.alloc (.cells (itcells bc 1) 220)) (abides_alloc HJ.out _ HJk.out) (by decide)
    rw [fc_1] at hy hR
    gi_wp2
    refine hR.mono ?_
    rintro e W3 (⟨rfl,hJ3,hk3⟩ | ⟨rfl,hJx3⟩)
    ·have HJ3:=Lib.hid hJ3
     have HT3:=Lib.hid (hk3.same _ _ (HTk.out.alloc _))
     clear hJ3 hk3 hR hy HY
     gi_wp2
     go_roundw
     case rel=>exact ⟨2,by omega,rfl,HJ3.out,HT3.out⟩
     case measure=>simp [intOf]
    ·have HJ3:=Lib.hid hJx3
     clear hJx3 hR hy HY
     gi_wp2
     refine bodyPost_ret (results_none rfl _ _ _) rfl ?_
     exact ⟨⟨_,rfl⟩,.inr ⟨_,all6_prefix 2,HJ3.out⟩⟩
   ·have c0:=HTk.out.cell (i:=8) (v:=.string ⟨#[114,101,111,114,100,101,114]⟩) rfl
    have c1:=HTk.out.cell (i:=9) (v:=.pointer (some ⟨bc,2,none⟩)) rfl
    have c2:=HTk.out.cell (i:=10) (v:=.int .u64 1) rfl
    have c3:=HTk.out.cell (i:=11) (v:=.int .u64 100) rfl
    obtain ⟨fn,tmps,assign,body,hy,hR⟩:=HY.out (all6.take 2) 2 (wr.alloc (.cells (itcells bc 2) 220)) (abides_alloc HJ.out _ HJk.out) (by decide)
    rw [fc_2] at hy hR
    gi_wp2
    refine hR.mono ?_
    rintro e W3 (⟨rfl,hJ3,hk3⟩ | ⟨rfl,hJx3⟩)
    ·have HJ3:=Lib.hid hJ3
     have HT3:=Lib.hid (hk3.same _ _ (HTk.out.alloc _))
     clear hJ3 hk3 hR hy HY
     gi_wp2
     go_roundw
     case rel=>exact ⟨3,by omega,rfl,HJ3.out,HT3.out⟩
     case measure=>simp [intOf]
    ·have HJ3:=Lib.hid hJx3
     clear hJx3 hR hy HY
     gi_wp2
     refine bodyPost_ret (results_none rfl _ _ _) rfl ?_
     exact ⟨⟨_,rfl⟩,.inr ⟨_,all6_prefix 3,HJ3.out⟩⟩
   ·have c0:=HTk.out.cell (i:=12) (v:=.string ⟨#[119,105,110,100,111,119]⟩) rfl
    have c1:=HTk.out.cell (i:=13) (v:=.pointer (some ⟨bc,3,none⟩)) rfl
    have c2:=HTk.out.cell (i:=14) (v:=.int .u64 1) rfl
    have c3:=HTk.out.cell (i:=15) (v:=.int .u64 1099511627776) rfl
    obtain ⟨fn,tmps,assign,body,hy,hR⟩:=HY.out (all6.take 3) 3 (wr.alloc (.cells (itcells bc 3) 220)) (abides_alloc HJ.out _ HJk.out) (by decide)
    rw [fc_3] at hy hR
    gi_wp2
    refine hR.mono ?_
    rintro e W3 (⟨rfl,hJ3,hk3⟩ | ⟨rfl,hJx3⟩)
    ·have HJ3:=Lib.hid hJ3
     have HT3:=Lib.hid (hk3.same _ _ (HTk.out.alloc _))
     clear hJ3 hk3 hR hy HY
     gi_wp2
     go_roundw
     case rel=>exact ⟨4,by omega,rfl,HJ3.out,HT3.out⟩
     case measure=>simp [intOf]
    ·have HJ3:=Lib.hid hJx3
     clear hJx3 hR hy HY
     gi_wp2
     refine bodyPost_ret (results_none rfl _ _ _) rfl ?_
     exact ⟨⟨_,rfl⟩,.inr ⟨_,all6_prefix 4,HJ3.out⟩⟩
   ·have c0:=HTk.out.cell (i:=16) (v:=.string ⟨#[112,114,111,98,101]⟩) rfl
    have c1:=HTk.out.cell (i:=17) (v:=.pointer (some ⟨bc,4,none⟩)) rfl
    have c2:=HTk.out.cell (i:=18) (v:=.int .u64 1) rfl
    have c3:=HTk.out.cell (i:=19) (v:=.int .u64 1099511627776) rfl
    obtain ⟨fn,tmps,assign,body,hy,hR⟩:=HY.out (all6.take 4) 4 (wr.alloc (.cells (itcells bc 4) 220)) (abides_alloc HJ.out _ HJk.out) (by decide)
    rw [fc_4] at hy hR
    gi_wp2
    refine hR.mono ?_
    rintro e W3 (⟨rfl,hJ3,hk3⟩ | ⟨rfl,hJx3⟩)
    ·have HJ3:=Lib.hid hJ3
     have HT3:=Lib.hid (hk3.same _ _ (HTk.out.alloc _))
     clear hJ3 hk3 hR hy HY
     gi_wp2
     go_roundw
     case rel=>exact ⟨5,by omega,rfl,HJ3.out,HT3.out⟩
     case measure=>simp [intOf]
    ·have HJ3:=Lib.hid hJx3
     clear hJx3 hR hy HY
     gi_wp2
     refine bodyPost_ret (results_none rfl _ _ _) rfl ?_
     exact ⟨⟨_,rfl⟩,.inr ⟨_,all6_prefix 5,HJ3.out⟩⟩
   ·have c0:=HTk.out.cell (i:=20) (v:=.string ⟨#[108,111,115,115]⟩) rfl
    have c1:=HTk.out.cell (i:=21) (v:=.pointer (some ⟨bc,5,none⟩)) rfl
    have c2:=HTk.out.cell (i:=22) (v:=.int .u64 0) rfl
    have c3:=HTk.out.cell (i:=23) (v:=.int .u64 1000) rfl
    obtain ⟨fn,tmps,assign,body,hy,hR⟩:=HY.out (all6.take 5) 5 (wr.alloc (.cells (itcells bc 5) 220)) (abides_alloc HJ.out _ HJk.out) (by decide)
    rw [fc_5] at hy hR
    gi_wp2
    refine hR.mono ?_
    rintro e W3 (⟨rfl,hJ3,hk3⟩ | ⟨rfl,hJx3⟩)
    ·have HJ3:=Lib.hid hJ3
     have HT3:=Lib.hid (hk3.same _ _ (HTk.out.alloc _))
     clear hJ3 hk3 hR hy HY
     gi_wp2
     go_roundw
     case rel=>exact ⟨6,by omega,rfl,HJ3.out,HT3.out⟩
     case measure=>simp [intOf]
    ·have HJ3:=Lib.hid hJx3
     clear hJx3 hR hy HY
     gi_wp2
     refine bodyPost_ret (results_none rfl _ _ _) rfl ?_
     exact ⟨⟨_,rfl⟩,.inr ⟨_,all6_prefix 6,HJ3.out⟩⟩
  ·have hk6:k=6:=by omega
   subst hk6
   gi_wp2
   go_end0
   exact ⟨⟨_,rfl⟩,.inl ⟨all6,rfl,HJk.out⟩⟩
theorem fields_stops (n Bc bc:Nat) (hn:1≤n) (w:World) (hB:Boxed w Bc 217 (.pointer (some ⟨bc,0,none⟩))):
  SeqStopsK Fence.wide n Tryz.prog 208 #[.pointer (some ⟨Bc,0,none⟩)] (fun k:Fin 6=>#[Value.agg (itcells bc k)]) Kf (fun xs=>xs=all6) (fun pre=>pre <+:all6) 6 w:=fun l J Jx W hW hJ _ hY h0=>
 fields1_in n l Bc bc hn J Jx W (Blk.keep hB hW) hJ hY h0
set_option maxHeartbeats 1000000 in
theorem fields_in (n bc:Nat) (w:World):
  CallsIn Fence.wide n Tryz.prog 134 #[.pointer (some ⟨bc,0,none⟩)] w fun e w'=>e=.returned (.func (.func 208) #[] #[.pointer (some ⟨w.heap.size,0,none⟩)])∧w'=w.alloc (.cells #[.pointer (some ⟨bc,0,none⟩)] 217):=by
 refine callsIn_of_wp Tryz.func134 rfl trivial ?_ rfl
 simp only [Tryz.ntmps134,List.size_toArray,List.length_cons,List.length_nil,Nat.reduceAdd,Nat.reduceSub,Array.replicate_succ,Array.replicate_zero,List.push_toArray,List.append_toArray,List.nil_append,List.cons_append]
 gi_wp2
 go_ret
 exact ⟨rfl,rfl⟩
end Go.Proofs.YteoepabmnbkabaaGreatDoor

set_option linter.unusedVariables false
namespace Go.Proofs.YteoepabmnbkabaaGreatDoor
open Go.RowKit Go.Shelf Cf
attribute [local go_sem] Oper.semAt_some
def ccells (c:Setup):Array Value:=#[.int .u64 (c 0:Int),.int .u64 (c 1:Int),.int .u64 (c 2:Int),.int .u64 (c 3:Int),.int .u64 (c 4:Int),.int .u64 (c 5:Int)]
theorem ccell {W:World} {b:Nat} {T:TypeId} {c:Setup} (h:Blk W b T (ccells c)) (k:Fin 6):W.cell? ⟨b,k.val,none⟩=some (.int .u64 (c k:Int)):=
 h.cell (fin6 (fun k=>(ccells c)[k.val]? =some (.int .u64 (c k:Int))) rfl rfl rfl rfl rfl rfl k)
theorem ko_drewN (W:World) (n:Nat):KeepsOthers W (W.drewN n):=⟨Nat.le_refl _,fun _ _ h _=>h⟩
theorem Blk.drewN {W:World} {b:Nat} {T:TypeId} {cs:Array Value} (h:Blk W b T cs) (n:Nat):Blk (W.drewN n) b T cs:=h
theorem boxed_drewN {W:World} {b:Nat} {T:TypeId} {v:Value} (h:Boxed W b T v) (n:Nat):Boxed (W.drewN n) b T v:=h
theorem Kf.drewN (W:World) (n:Nat):Kf W (W.drewN n):=⟨Nat.le_refl _,fun _ _ h=>h⟩
theorem bel_drewN {B:Nat} {A W:World} (h:Below B A W) (n:Nat):Below B A (W.drewN n):=⟨h.os,h.tape,h.output,h.size,h.block⟩
theorem mem_all6 (x:Fin 6):x∈all6:=by revert x;decide
theorem not_right {c:Setup} {x:Fin 6} (h:fits c x=false):rightC c=false:=by
 unfold rightC
 rw [List.all_eq_false]
 exact ⟨x,mem_all6 x,by simp [h]⟩
theorem all_snoc {c:Setup} {x:Fin 6} {pre:List (Fin 6)} (h:pre.all (fits c)=true) (hx:fits c x=true):(pre ++ [x]).all (fits c)=true:=by
 rw [List.all_append,h];simp [hx]
theorem blk_own {β:Type} (B:Nat) (t:TypeId) (f:β→Array Value):Own (fun s W=>Blk W B t (f s)):=fun s X Y row hs hg hrow=>
 hs.grown hg (fun e=>by
  obtain ⟨o,ho,hc⟩:=hrow B e.symm
  unfold Blk at hs
  rw [hs] at ho;cases ho;cases hc)
set_option maxRecDepth 100000 in
set_option maxHeartbeats 2000000 in
theorem conf_Right (c:Setup) (hc:∀k,c k≤18446744073709551615) (w:World):
  Calls Tryz.prog 65 #[.agg (ccells c)] w fun e w'=>e=.returned (.bool (rightC c))∧Below w.heap.size w w':=by
 refine (callsIn_wide (n:=6)).1 ?_
 refine callsIn_of_wp_marks Tryz.func65 rfl trivial ?_ rfl
 simp only [Tryz.ntmps65,List.size_toArray,List.length_cons,List.length_nil,Nat.reduceAdd,Nat.reduceSub,Array.replicate_succ,Array.replicate_zero,List.push_toArray,List.append_toArray,List.nil_append,List.cons_append]
 gi_wp2_with (refine ⟨trivial,?_⟩;gi_at_call 134;refine (fields_in _ _ _).mono ?_;rintro e w' ⟨rfl,rfl⟩)
 have HC:=Lib.hid hc
 clear hc
 have bC:=(((Blk.new w 24 (ccells c)).alloc (.cells #[.bool false] 4)).alloc (.cells #[.pointer (some ⟨w.heap.size,0,none⟩)] 217))
 have bR:=(Boxed.new (w.alloc (.cells (ccells c) 24)) 4 (.bool false)).alloc (.cells #[.pointer (some ⟨w.heap.size,0,none⟩)] 217)
 have bF:=Boxed.new ((w.alloc (.cells (ccells c) 24)).alloc (.cells #[.bool false] 4)) 217 (.pointer (some ⟨w.heap.size,0,none⟩))
 have hB0:Below w.heap.size w (((w.alloc (.cells (ccells c) 24)).alloc (.cells #[.bool false] 4)).alloc (.cells #[.pointer (some ⟨w.heap.size,0,none⟩)] 217)):=(((Below.refl _ w).alloc (Nat.le_refl _) _).alloc (by simp) _).alloc (by simp;omega) _
 simp only [World.size_alloc] at bC bR bF
 refine wpIn_rangeFunc_ownH rfl (by omega) (gf:=208) (lb:=#[.pointer (some ⟨w.heap.size + 1 + 1,0,none⟩)]) rfl trivial (enters_of Tryz.func208 (by kernel_rfl) rfl)
  (fields_stops 5 (w.heap.size + 1 + 1) w.heap.size (by omega) _ bF) Kf.trans Kf.putObj (Below.refl _ _) (fun _=>rfl)
  (fun pre W=>((Blk W w.heap.size 24 (ccells c)∧Boxed W (w.heap.size + 1) 4 (.bool false))∧pre.all (fits c)=true)∧Below w.heap.size w W)
  (fun cd pre W=>((cd=.ret∧rightC c=false)∧Boxed W (w.heap.size + 1) 4 (.bool false))∧Below w.heap.size w W)
  (OwnFrom.and (OwnFrom.and (OwnFrom.and (Own.from (blk_own _ _ _) _) (Own.from (boxed_own _ _ _) _)) (ownFrom_pure _ _)) (ownFrom_below (Nat.le_refl _) (by simp;omega)))
  (fun cd=>OwnFrom.and (OwnFrom.and (ownFrom_pure _ _) (Own.from (boxed_own _ _ _) _)) (ownFrom_below (Nat.le_refl _) (by simp;omega)))
  ⟨⟨⟨bC,bR⟩,rfl⟩,hB0⟩
  (fun x a' W=>∃Bx,Blk W Bx 220 (itcells w.heap.size x)∧a'={tmps:=#[.agg (ccells c),.pointer (some ⟨w.heap.size,0,none⟩),.pointer (some ⟨w.heap.size + 1,0,none⟩),.pointer (some ⟨Bx,0,none⟩),.func (.func 208) #[] #[.pointer (some ⟨w.heap.size + 1 + 1,0,none⟩)],.agg (itcells w.heap.size x),undef,undef,undef,undef,undef,undef,undef,undef,undef,undef,undef,undef,undef,undef,undef,undef],defers:=[]})
  (fun x a' _ X Y row hs hg hr=>by obtain ⟨Bx,h2,h3⟩:=hs;exact ⟨Bx,blk_own Bx 220 (fun (_:Unit)=>itcells w.heap.size x) () X Y row h2 hg (fun r e=>(hr r e).2),h3⟩)
  ?assign ?body ?done ?stop
 case assign=>
  rintro l pre x W K ⟨⟨⟨h1,h2⟩,h3⟩,h4⟩ hK
  have H1:=Lib.hid h1
  have H2:=Lib.hid h2
  have H3:=Lib.hid h3
  have H4:=Lib.hid h4
  clear h1 h2 h3 h4
  simp only [itcells] at hK ⊢
  gi_wp2
  exact hK _ _ ((KeepsOthers.alloc _ _).from _) (Kf.alloc _ _) ⟨⟨⟨H1.out.alloc _,H2.out.alloc _⟩,H3.out⟩,H4.out.alloc H4.out.size _⟩ ⟨W.heap.size,Blk.new W _ _,rfl⟩
 case body=>
  rintro l pre x a' W hl ⟨r,hr⟩ ⟨⟨⟨h1,h2⟩,h3⟩,h4⟩ ⟨Bx,hX,rfl⟩ hlt
  have hn:=ccell h1 x
  have f1:=hX.cell (i:=1) (v:=.pointer (some ⟨w.heap.size,x.val,none⟩)) rfl
  have f2:=hX.cell (i:=2) (v:=.int .u64 (least x:Int)) rfl
  have f3:=hX.cell (i:=3) (v:=.int .u64 (most x:Int)) rfl
  have r1:=h2.cell
  have r2:=h2.frozen
  have H1:=Lib.hid h1
  have H2:=Lib.hid h2
  have H3:=Lib.hid h3
  have H4:=Lib.hid h4
  have HX:=Lib.hid hX
  have HF:=Lib.hid (show fits c x=decide (least x≤c x∧c x≤most x) from rfl)
  clear h1 h2 h3 h4 hX hr hl hlt bC bR bF hB0 HC
  simp only [itcells]
  generalize c x=n at *
  generalize least x=lo at *
  generalize most x=hi at *
  by_cases hlo:n < lo
  ·have d1:decide (n < lo)=true:=by simpa using hlo
   refine wpIn_block (wpIn_seq_k (fun K hK=>?_))
   refine region_quiet_round (by rintro ⟨_,_,h⟩;exact h) (by kernel_rfl) (by kernel_rfl) (by kernel_rfl) ?_
   repeat (go_big_quiet_step (fail))
   refine wpQuiet_nil ?_
   intro _ hw'
   obtain ⟨nq,hw''⟩:=hw'
   subst hw''
   refine hK _ _ ?_
   clear hK
   gi_wp2
   have hx:fits c x=false:=by rw [HF.out];simp;omega
   exact ⟨((ko_drewN W nq).trans (KeepsOthers.setCell _ _ _)).from _,⟨⟨rfl,not_right hx⟩,(boxed_drewN H2.out nq).set _⟩,(bel_drewN H4.out nq).setCell (p:=⟨w.heap.size + 1,0,none⟩) (by simp) _⟩
  ·have d1:decide (n < lo)=false:=by simpa using hlo
   by_cases hhi:hi < n
   ·have d2:decide (hi < n)=true:=by simpa using hhi
    refine wpIn_block (wpIn_seq_k (fun K hK=>?_))
    refine region_quiet_round (by rintro ⟨_,_,h⟩;exact h) (by kernel_rfl) (by kernel_rfl) (by kernel_rfl) ?_
    repeat (go_big_quiet_step (fail))
    refine wpQuiet_nil ?_
    intro _ hw'
    obtain ⟨nq,hw''⟩:=hw'
    subst hw''
    refine hK _ _ ?_
    clear hK
    gi_wp2
    have hx:fits c x=false:=by rw [HF.out];simp;omega
    exact ⟨((ko_drewN W nq).trans (KeepsOthers.setCell _ _ _)).from _,⟨⟨rfl,not_right hx⟩,(boxed_drewN H2.out nq).set _⟩,(bel_drewN H4.out nq).setCell (p:=⟨w.heap.size + 1,0,none⟩) (by simp) _⟩
   ·have d2:decide (hi < n)=false:=by simpa using hhi
    refine wpIn_block (wpIn_seq_k (fun K hK=>?_))
    refine region_quiet_round (by rintro ⟨_,_,h⟩;exact h) (by kernel_rfl) (by kernel_rfl) (by kernel_rfl) ?_
    repeat (go_big_quiet_step (fail))
    refine wpQuiet_nil ?_
    intro _ hw'
    obtain ⟨nq,hw''⟩:=hw'
    subst hw''
    refine hK _ _ ?_
    clear hK
    gi_wp2
    have hx:fits c x=true:=by rw [HF.out];simp;omega
    exact ⟨(ko_drewN W nq).from _,Kf.drewN W nq,⟨⟨H1.out.drewN nq,boxed_drewN H2.out nq⟩,all_snoc H3.out hx⟩,bel_drewN H4.out nq⟩
 case done=>
  rintro D xs W hD rfl ⟨⟨⟨h1,h2⟩,h3⟩,h4⟩ hK
  have r1:=h2.cell
  have r2:=h2.frozen
  have H2:=Lib.hid h2
  have H3:=Lib.hid h3
  have H4:=Lib.hid h4
  have HK:=Lib.hid hK
  have HD:=Lib.hid hD
  clear h1 h2 h3 h4 hK hD bC bR bF hB0 HC
  gi_wp2
  have hK':=(KeepsOthers.setCell W ⟨w.heap.size + 1,0,none⟩ (.bool true)).same D _ HK.out rfl
  refine ⟨by simp,.inl ⟨_,_,rfl,run_takeDeferred hK',?_⟩⟩
  have hc5:=cell_kept (World.cell?_setCell_same' W ⟨w.heap.size + 1,0,none⟩ (.bool true) (by rw [r1];rfl)) (grownBy_putObj' _ D (.deferred none)) (fun r e=>by cases e;exact ⟨_,hK',rfl⟩)
  refine ⟨.bool true,?_,by rw [show rightC c=true from H3.out],(H4.out.setCell (p:=⟨w.heap.size + 1,0,none⟩) (by simp) _).trans (belowK_b (w:=w) (Nat.le_refl _) _ D _ _ (by have:=HD.out;simp at this;omega) hK' rfl rfl)⟩
  simp [results,Tryz.f65,go_sem,hc5]
 case stop=>
  rintro D cd pre W hD _ ⟨⟨⟨rfl,h1⟩,h2⟩,h4⟩ hK
  have r1:=h2.cell
  have H1:=Lib.hid h1
  have H4:=Lib.hid h4
  have HK:=Lib.hid hK
  have HD:=Lib.hid hD
  clear h1 h2 h4 hK hD bC bR bF hB0 HC
  gi_wp2
  refine ⟨by simp,.inl ⟨_,_,rfl,run_takeDeferred HK.out,?_⟩⟩
  have hc5:=cell_kept r1 (grownBy_putObj' _ D (.deferred none)) (fun r e=>by cases e;exact ⟨_,HK.out,rfl⟩)
  refine ⟨.bool false,?_,by rw [H1.out],H4.out.trans (belowK_b (w:=w) (Nat.le_refl _) W D _ _ (by have:=HD.out;simp at this;omega) HK.out rfl rfl)⟩
  simp [results,Tryz.f65,go_sem,hc5]
end Go.Proofs.YteoepabmnbkabaaGreatDoor

set_option linter.unusedVariables false
namespace Go.Proofs.YteoepabmnbkabaaGreatDoor
open Go.RowKit Go.Shelf Cf
theorem ref_in (n lo hi:Nat) (w:World):Calls Tryz.prog 42 #[.int .u64 (n:Int),.int .u64 (lo:Int),.int .u64 (hi:Int)] w fun e w'=>e=.returned (.bool (decide (lo≤n∧n≤hi)))∧w'=w:=by
 by_cases h1:lo≤n
 ·have d1:decide (lo≤n)=true:=by simpa using h1
  by_cases h2:n≤hi
  ·have d2:decide (n≤hi)=true:=by simpa using h2
   go_enter Tryz.func42,Tryz.ntmps42
   go_wp2
   go_ret
   exact ⟨by simp [h1,h2],rfl⟩
  ·have d2:decide (n≤hi)=false:=by simpa using h2
   go_enter Tryz.func42,Tryz.ntmps42
   go_wp2
   go_ret
   exact ⟨by simp [h2],rfl⟩
 ·have d1:decide (lo≤n)=false:=by simpa using h1
  go_enter Tryz.func42,Tryz.ntmps42
  go_wp2
  go_ret
  exact ⟨by simp [h1],rfl⟩
theorem right_and (c:Setup):rightC c=(fits c 0 && (fits c 1 && (fits c 2 && (fits c 3 && (fits c 4 && fits c 5))))):=by
 simp [rightC,all6]
set_option maxRecDepth 100000 in
set_option maxHeartbeats 1000000 in
theorem ref_Right (c:Setup) (w:World):
  Calls Tryz.prog 13 #[.agg (ccells c)] w fun e w'=>e=.returned (.bool (rightC c))∧Below w.heap.size w w':=by
 have h0:∀w',Calls Tryz.prog 42 #[.int .u64 (c 0:Int),.int .u64 1,.int .u64 65535] w' fun e w''=>e=.returned (.bool (fits c 0))∧w''=w':=fun w'=>ref_in (c 0) 1 65535 w'
 have h1:∀w',Calls Tryz.prog 42 #[.int .u64 (c 1:Int),.int .u64 4,.int .u64 1000] w' fun e w''=>e=.returned (.bool (fits c 1))∧w''=w':=fun w'=>ref_in (c 1) 4 1000 w'
 have h2:∀w',Calls Tryz.prog 42 #[.int .u64 (c 2:Int),.int .u64 1,.int .u64 100] w' fun e w''=>e=.returned (.bool (fits c 2))∧w''=w':=fun w'=>ref_in (c 2) 1 100 w'
 have h3:∀w',Calls Tryz.prog 42 #[.int .u64 (c 3:Int),.int .u64 1,.int .u64 1099511627776] w' fun e w''=>e=.returned (.bool (fits c 3))∧w''=w':=fun w'=>ref_in (c 3) 1 1099511627776 w'
 have h4:∀w',Calls Tryz.prog 42 #[.int .u64 (c 4:Int),.int .u64 1,.int .u64 1099511627776] w' fun e w''=>e=.returned (.bool (fits c 4))∧w''=w':=fun w'=>ref_in (c 4) 1 1099511627776 w'
 have h5:decide ((c 5:Int)≤1000)=fits c 5:=by
  unfold fits
  rw [show least 5=0 from rfl,show most 5=1000 from rfl]
  by_cases h:c 5≤1000 <;> simp [h] <;> omega
 have H0:=Lib.hid h0
 have H1:=Lib.hid h1
 have H2:=Lib.hid h2
 have H3:=Lib.hid h3
 have H4:=Lib.hid h4
 rw [right_and]
 clear h0 h1 h2 h3 h4
 generalize fits c 0=b0 at *
 generalize fits c 1=b1 at *
 generalize fits c 2=b2 at *
 generalize fits c 3=b3 at *
 generalize fits c 4=b4 at *
 generalize fits c 5=b5 at *
 simp only [ccells]
 go_enter Tryz.func13,Tryz.ntmps13
 go_wp2_with fail
 refine (H0.out _).mono ?_
 rintro e w1 ⟨rfl,rfl⟩
 cases b0 with
 | false=>
   go_wp2_with fail
   go_ret
   exact ⟨rfl,(Below.refl _ _).alloc (Nat.le_refl _) _⟩
 | true=>
   go_wp2_with fail
   refine (H1.out _).mono ?_
   rintro e w1 ⟨rfl,rfl⟩
   cases b1 with
   | false=>
     go_wp2_with fail
     go_ret
     exact ⟨rfl,(Below.refl _ _).alloc (Nat.le_refl _) _⟩
   | true=>
     go_wp2_with fail
     refine (H2.out _).mono ?_
     rintro e w1 ⟨rfl,rfl⟩
     cases b2 with
     | false=>
       go_wp2_with fail
       go_ret
       exact ⟨rfl,(Below.refl _ _).alloc (Nat.le_refl _) _⟩
     | true=>
       go_wp2_with fail
       refine (H3.out _).mono ?_
       rintro e w1 ⟨rfl,rfl⟩
       cases b3 with
       | false=>
         go_wp2_with fail
         go_ret
         exact ⟨rfl,(Below.refl _ _).alloc (Nat.le_refl _) _⟩
       | true=>
         go_wp2_with fail
         refine (H4.out _).mono ?_
         rintro e w1 ⟨rfl,rfl⟩
         cases b4 with
         | false=>
           go_wp2_with fail
           go_ret
           exact ⟨rfl,(Below.refl _ _).alloc (Nat.le_refl _) _⟩
         | true=>
           cases b5 with
           | false=>
             go_wp2_with fail
             go_ret
             exact ⟨by simp_all,(Below.refl _ _).alloc (Nat.le_refl _) _⟩
           | true=>
             go_wp2_with fail
             go_ret
             exact ⟨by simp_all,(Below.refl _ _).alloc (Nat.le_refl _) _⟩
end Go.Proofs.YteoepabmnbkabaaGreatDoor
