/- 4 texts put together: what each one says stands ahead of it. -/
import Derived.Test.YteoepabmnbkabaaGreatDoorKS40
import Derived.Test.YteoepabmnbkabaaGreatDoorKS31
import Derived.Test.YteoepabmnbkabaaGreatDoorKS34
import Derived.Lib.SliceRun
import Derived.Deep.AppendLies
import Derived.Test.YteoepabmnbkabaaGreatDoorKS38
import Derived.Deep.RegionWith
set_option linter.unusedVariables false
namespace Go.Proofs.YteoepabmnbkabaaGreatDoor
open Go.RowKit Go.Shelf
attribute [local go_sem] Oper.semAt_some
def Parts (w:World) (P:List (Value × List Rn)):Prop:=∀x∈P,RR w x.1 x.2∧0 < x.2.length
def pvals (P:List (Value × List Rn)):List Value:=P.map (·.1)
def pall (P:List (Value × List Rn)):List Rn:=P.flatMap (·.2)
theorem Parts.same {w w':World} {P:List (Value × List Rn)} (h:Parts w P) (hk:∀g cs,Blk w g 59 cs→w'.heap[g]? =w.heap[g]?):Parts w' P:=fun x hx=>⟨(h x hx).1.same fun g cs _ hb=>hk g cs hb,(h x hx).2⟩
theorem Parts.keep {w w':World} {P:List (Value × List Rn)} (h:Parts w P) (k:Below w.heap.size w w'):Parts w' P:=h.same fun g cs hb=>k.block g hb.lt
theorem pvals_one {P:List (Value × List Rn)} {w:World} (h:Parts w P):∀u∈pvals P,u.oneCell'=true:=by
 intro u hu
 obtain ⟨x,hx,rfl⟩:=List.mem_map.1 hu
 rcases (h x hx).1.form with ⟨e,_⟩ | ⟨g,c,e,_⟩ <;> rw [e] <;> rfl
set_option maxRecDepth 100000 in
theorem clone_any (p:Option Addr) (c:Nat) (l:List Rn) (w:World) (h:Its w p l) (hp:0 < l.length) (hm:l.length≤1000):
  Calls Tryz.prog 196 #[.slice p l.length c] w (NewRow w l):=by
 obtain ⟨ad,rfl,_⟩:=h.cells hp
 have hE:Hid (RR (w.alloc (.cells #[] 59)) (.slice (some ⟨w.heap.size,0,none⟩) 0 0) []):=Lib.hid (RR.mk rfl (Blk.new _ _ _) (Nat.le_refl _) (Nat.zero_le _) rfl rfl)
 have hI:Hid (Its (w.alloc (.cells #[] 59)) (some ad) l):=Lib.hid (h.keep ((Below.refl _ _).alloc (Nat.le_refl _) _))
 clear h
 have hq:∀w:World,(binOp .eql 36 (.slice (some ad) l.length c) (.slice none 0 0)).run Tryz.prog w=.ok (.bool false) w:=fun w=>Lib.run_eql_slice_nil (P:=Tryz.prog) w 36 59 (some ad) l.length c 0 0 Tryz.underlying36
 go_enter Tryz.func196,Tryz.ntmps196
 go_wp2_with (at_builtin;(refine wpList_append_rr rfl _ _ rfl (.slice (some ⟨w.heap.size,0,none⟩) 0 0) [] rfl hE.out (some ad) l.length c l rfl rfl hp hI.out (by simp;omega) ?_);intro g' cap' w2 hR hgr hat)
 have HR:=Lib.hid hR
 have HG:=Lib.hid hgr
 have HA:=Lib.hid hat
 clear hR hgr hat
 go_wp2
 go_ret
 refine ⟨_,rfl,by simpa using HR.out,?_,fun k e=>?_⟩
 ·have b0:Below w.heap.size w (w.alloc (.cells #[] 59)):=(Below.refl _ _).alloc (Nat.le_refl _) _
  exact b0.grown HG.out b0.size (fun k e=>by simp [Value.ownBlock] at e;omega)
 ·simp [Value.ownBlock] at e
  subst e
  rcases HA.out with k | k
  ·simp [Value.ownBlock] at k;omega
  ·rw [k];simp
def chk (l:List Rn) (k:Nat):List Rn:=(l.drop (32 * k)).take 32
def chN (n:Nat):Nat:=(n + 31) / 32
structure ChR (g off cap bs bn:Nat) (l:List Rn) (W:World):Prop where
 s:Blk W bs 36 #[.slice (some ⟨g,off,none⟩) l.length cap]
 n:Blk W bn 3 #[.int .i64 32]
set_option maxRecDepth 100000 in
set_option maxHeartbeats 2000000 in
theorem chunk1 (n l0 g off cap bs bn:Nat) (l:List Rn) (hn:1≤n) (hc:l.length≤cap) (hcm:cap≤9223372036854775807) (hlen:l.length≤1000) (J Jx:List Nat→World→Prop) (W:World)
  (hJ:∀pre A B,J pre A→Below A.heap.size A B→J pre B) (hR:∀pre A,J pre A→ChR g off cap bs bn l A)
  (hY:∀pre x A,J pre A→pre ++ [x] <+:List.range (chN l.length)→YieldAt Fence.wide (n - 1) Tryz.prog l0 #[.slice (some ⟨g,off + 32 * x * 2,none⟩) (chk l x).length (chk l x).length] A fun e B=>(e=.returned (.bool true)∧J (pre ++ [x]) B)∨(e=.returned (.bool false)∧Jx (pre ++ [x]) B))
  (h0:J [] W):
  CallsIn Fence.wide n Tryz.prog 271 #[.func (.yield l0) #[] #[],.pointer (some ⟨bs,0,none⟩),.pointer (some ⟨bn,0,none⟩)] W fun e W'=>(∃v,e=.returned v)∧((∃xs,xs=List.range (chN l.length)∧J xs W')∨(∃pre,pre <+:List.range (chN l.length)∧Jx pre W')):=by
 have H0:=Lib.hid h0
 have HJ:=Lib.hid hJ
 have HR:=Lib.hid hR
 have HY:=Lib.hid hY
 clear h0 hJ hR hY
 refine callsIn_of_wp Tryz.func271 rfl trivial ?_ rfl
 simp only [Tryz.ntmps271,List.size_toArray,List.length_cons,List.length_nil,Nat.reduceAdd,Nat.reduceSub,Array.replicate_succ,Array.replicate_zero,List.push_toArray,List.append_toArray,List.nil_append,List.cons_append]
 gi_wp2
 gi_loopw [4] (fun iv wr=>∃k i:Nat,Hid (i=32 * k)∧k≤chN l.length∧iv=.int .i64 (i:Int)∧J (List.range k) wr) (fun i _=>l.length - (intOf i).toNat)
 case atStart=>exact ⟨0,0,Lib.hid rfl,Nat.zero_le _,rfl,H0.out⟩
 case round=>
  obtain ⟨k,i,HIk,hk,rfl,hJk⟩:=hrel
  have HJk:=Lib.hid hJk
  have R:=HR.out _ _ hJk
  have s0:=R.s.cell (i:=0) (v:=.slice (some ⟨g,off,none⟩) l.length cap) rfl
  have n0:=R.n.cell (i:=0) (v:=.int .i64 32) rfl
  clear R hJk H0
  by_cases hlt:i < l.length
  ·have hk1:k < chN l.length:=by have:=HIk.out;unfold chN;omega
   have hcl:Hid ((chk l k).length=min 32 (l.length - i)):=Lib.hid (by unfold chk;rw [List.length_take,List.length_drop,HIk.out])
   have HPre:Hid (List.range k ++ [k] <+:List.range (chN l.length)):=Lib.hid (by
    rw [← List.range_succ]
    have:=range_split (k + 1) (chN l.length) (by omega)
    rw [this];exact List.prefix_append _ _)
   have hle:i≤l.length:=by omega
   have hic:i≤cap:=by omega
   gi_wp2
   refine wpIn_wide.2 ?_
   go_quiet (fail)
   have HJ2:=Lib.hid (HJ.out _ _ _ HJk.out (Drawn.below ⟨nq,rfl⟩ wr.heap.size))
   have em:min 32 ((l.length - i:Nat):Int)=((min 32 (l.length - i):Nat):Int):=by omega
   rw [em]
   have he1:min 32 (l.length - i)≤32:=by omega
   have he2:1≤min 32 (l.length - i):=by omega
   have he3:i + min 32 (l.length - i)≤l.length:=by omega
   have he4:i + min 32 (l.length - i)≤cap:=by omega
   clear em
   generalize min 32 (l.length - i)=e at *
   have s0:(wr.drewN nq).cell? ⟨bs,0,none⟩=some (.slice (some ⟨g,off,none⟩) l.length cap):=s0
   have n0:(wr.drewN nq).cell? ⟨bn,0,none⟩=some (.int .i64 32):=n0
   generalize wr.drewN nq=w2 at *
   have HYk:=HY.out _ k w2 HJ2.out HPre.out
   rw [hcl.out,← HIk.out] at HYk
   obtain ⟨fn,tmps,assign,body,hy,hRd⟩:=HYk
   gi_wp2
   refine hRd.mono ?_
   have ers:List.range k ++ [k]=List.range (k + 1):=(List.range_succ).symm
   rw [ers]
   have HPre2:Hid (List.range (k + 1) <+:List.range (chN l.length)):=Lib.hid (by rw [← ers];exact HPre.out)
   rintro e3 W3 (⟨rfl,hJ3⟩ | ⟨rfl,hJx3⟩)
   ·have HJ3:=Lib.hid hJ3
    have n0:=(HR.out _ _ hJ3).n.cell (i:=0) (v:=.int .i64 32) rfl
    clear hJ3 hy hRd HY s0 ers
    gi_wp2
    go_roundw
    case rel=>exact ⟨k + 1,i + 32,Lib.hid (by have:=HIk.out;omega),hk1,by go_num,HJ3.out⟩
    case measure=>simp [intOf];omega
   ·have HJ3:=Lib.hid hJx3
    clear hJx3 hy hRd HY s0 n0 ers
    gi_wp2
    refine bodyPost_ret (results_none rfl _ _ _) rfl ?_
    exact ⟨⟨_,rfl⟩,.inr ⟨_,HPre2.out,HJ3.out⟩⟩
  ·have hk1:k=chN l.length:=by have:=HIk.out;unfold chN at *;omega
   have HJ2:=Lib.hid HJk.out
   rw [hk1] at HJ2
   clear hk1
   gi_wp2
   go_end0
   exact ⟨⟨_,rfl⟩,.inl ⟨_,rfl,HJ2.out⟩⟩
theorem chunk_seq (n g off cap bs bn:Nat) (l:List Rn) (hn:1≤n) (hc:l.length≤cap) (hcm:cap≤9223372036854775807) (hlen:l.length≤1000):
  Seq1 n Tryz.prog 271 #[.pointer (some ⟨bs,0,none⟩),.pointer (some ⟨bn,0,none⟩)] (fun k:Nat=>#[.slice (some ⟨g,off + 32 * k * 2,none⟩) (chk l k).length (chk l k).length]) (fun pre x=>pre ++ [x] <+:List.range (chN l.length)) (fun xs=>xs=List.range (chN l.length)) (fun pre=>pre <+:List.range (chN l.length)) (fun _ W=>ChR g off cap bs bn l W):=
 fun l0 J Jx W hJ _ hR hY h0=>chunk1 n l0 g off cap bs bn l hn hc hcm hlen J Jx W hJ hR hY h0
end Go.Proofs.YteoepabmnbkabaaGreatDoor

set_option linter.unusedVariables false
namespace Go.Proofs.YteoepabmnbkabaaGreatDoor
open Go.RowKit Go.Shelf
attribute [local go_sem] Oper.semAt_some
theorem ub_sl_info:(Tryz.prog.info? 36).map (fun i=>(i.zero,i.size,i.bytes))=some (some (.slice none 0 0),1,24):=by kernel_rfl
structure BlkPost (w:World) (L:List Rn) (e:Ending) (w':World):Prop where
 at_:∃v P,e=.returned v∧w'.ownsRow w.heap.size 36 1 v P.length (pvals P)∧Parts w' P∧pall P=L∧P.length≤1000∧0 < P.length
 bel:Below w.heap.size w w'
theorem blocks_few (v:Value) (p:Option Addr) (cap:Nat) (L:List Rn) (w:World) (h:RR w (.slice p L.length cap) L) (hp:0 < L.length) (hl:L.length≤64):
  Calls Tryz.prog 124 #[.slice p L.length cap] w (BlkPost w L):=by
 have HH:=Lib.hid h
 clear h
 go_enter Tryz.func124,Tryz.ntmps124
 go_wp2
 go_ret
 refine ⟨⟨_,[(.slice p L.length cap,L)],rfl,⟨rfl,.inr ⟨w.heap.size,1,_,rfl,Nat.le_refl _,Blk.new _ _ _,Nat.le_refl _,by unfold maxLen;omega,rfl,rfl⟩⟩,?_,by simp [pall],by simp,by simp⟩,(Below.refl _ _).alloc (Nat.le_refl _) _⟩
 intro x hx
 simp at hx
 subst hx
 exact ⟨HH.out.keep ((Below.refl _ _).alloc (Nat.le_refl _) _),hp⟩
structure BlI (g off cap bs bn n0 nv B3:Nat) (l:List Rn) (w:World) (pre:List Nat) (W:World):Prop where
 ch:ChR g off cap bs bn l W
 its:Its W (some ⟨g,off,none⟩) l
 box:∃v P,Blk W B3 182 #[v]∧W.ownsRow nv 36 1 v pre.length (pvals P)∧P.length=pre.length∧Parts W P∧pall P=pre.flatMap (chk l)
 bel:Below n0 w W
theorem its_same {W W':World} {g off:Nat} {l:List Rn} (h:Its W (some ⟨g,off,none⟩) l) (hs:W.heap.size≤W'.heap.size) (hk:W'.heap[g]? =W.heap[g]?):Its W' (some ⟨g,off,none⟩) l:=by
 intro hp
 obtain ⟨b,o,e,hb,hc⟩:=h hp
 injection e with e;injection e with e1 e2
 subst e1 e2
 exact ⟨_,_,rfl,Nat.lt_of_lt_of_le hb hs,fun i j hi hj=>(World.cell?_of_block (a:=⟨g,_,none⟩) hk).trans (hc i j hi hj)⟩
theorem bli_own (g off cap bs bn n0 nv B3 B:Nat) (l:List Rn) (w:World) (hB:n0≤B) (hn:n0≤w.heap.size) (hg:g < B):OwnFrom B (BlI g off cap bs bn n0 nv B3 l w):=fun pre X Y row hs hgr hr=>by
 have k:=kept_grown hgr (fun r e=>(hr r e).2)
 have mv:∀{x T cs},Blk X x T cs→Blk Y x T cs:=fun {x T cs} hb=>by unfold Blk;rw [k x T cs hb];exact hb
 obtain ⟨v,P,h1,h2,h3,h4,h5⟩:=hs.box
 refine ⟨⟨mv hs.ch.s,mv hs.ch.n⟩,?_,⟨v,P,mv h1,own_same h2 fun g cs _ _ hb=>k g _ cs hb,h3,h4.same fun g cs hb=>k g _ cs hb,h5⟩,hs.bel.grown hgr (Nat.le_trans hn hs.bel.size) (fun k e=>Nat.le_trans hB (hr k e).1)⟩
 by_cases hp:0 < l.length
 ·obtain ⟨b,o,e,hb,_⟩:=hs.its hp
  injection e with e;injection e with e1 e2
  subst e1
  exact its_same hs.its hgr.size (hgr.block g hb (fun e=>by have:=(hr g e.symm).1;omega))
 ·exact fun h=>absurd h hp
theorem chk_its {W:World} {g off:Nat} {l:List Rn} {k:Nat} (h:Its W (some ⟨g,off,none⟩) l) (hk:32 * k < l.length):Its W (some ⟨g,off + 32 * k * 2,none⟩) (chk l k):=by
 intro hp
 obtain ⟨b,o,e,hb,hc⟩:=h (by omega)
 injection e with e;injection e with e1 e2
 subst e1 e2
 refine ⟨g,off + 32 * k * 2,rfl,hb,fun i j hi hj=>?_⟩
 have hlen:(chk l k).length=min 32 (l.length - 32 * k):=by unfold chk;rw [List.length_take,List.length_drop]
 have k2:Itm.k Rn=2:=rfl
 have:=hc (32 * k + i) j (by omega) hj
 rw [k2] at this ⊢
 rw [show off + 32 * k * 2 + (i * 2 + j)=off + ((32 * k + i) * 2 + j) by omega,this]
 have e:(chk l k).getD i Itm.z=l.getD (32 * k + i) Itm.z:=by
  unfold chk
  rw [List.getD_eq_getElem?_getD,List.getD_eq_getElem?_getD,List.getElem?_take_of_lt (by omega),List.getElem?_drop]
 rw [e]
theorem chk_all (l:List Rn):(List.range (chN l.length)).flatMap (chk l)=l:=by
 have key:∀k,(List.range k).flatMap (chk l)=l.take (32 * k):=by
  intro k
  induction k with
  | zero=>simp
  | succ k ih=>
    rw [List.range_succ,List.flatMap_append,ih]
    simp only [List.flatMap_cons,List.flatMap_nil,List.append_nil]
    unfold chk
    rw [show 32 * (k + 1)=32 * k + 32 by omega,List.take_add]
 rw [key,List.take_of_length_le (by unfold chN;omega)]
theorem bl_round {g off cap bs bn n0 nv B3:Nat} {l:List Rn} {w W W5 w1:World} {pre:List Nat} {x:Nat} {v rv:Value} {P:List (Value × List Rn)} {o:Obj} {g' c' n:Nat} (h:BlI g off cap bs bn n0 nv B3 l w pre W) (hnw:n0≤w.heap.size) (hB3:n0≤B3) (hgt:∃cs,Blk W g 59 cs) (hbs:bs < nv) (hnv:n0≤nv)
  (h5:Below W.heap.size W W5) (hr5:RR W5 rv (chk l x)) (hx:0 < (chk l x).length)
  (hb:Blk W B3 182 #[v]) (hv:W.ownsRow nv 36 1 v pre.length (pvals P)) (hPl:P.length=pre.length) (hP:Parts W P) (hPa:pall P=pre.flatMap (chk l)) (hn:n=pre.length + 1)
  (hown:w1.ownsRow nv 36 1 (.slice (some ⟨g',0,none⟩) n c') (pre.length + 1) (pvals P ++ [rv])) (hg:(W5.alloc o).grownBy w1 v.ownBlock) (B:Nat):
  KeepsFrom B W (w1.setCell ⟨B3,0,none⟩ (.slice (some ⟨g',0,none⟩) n c'))∧BlI g off cap bs bn n0 nv B3 l w (pre ++ [x]) (w1.setCell ⟨B3,0,none⟩ (.slice (some ⟨g',0,none⟩) n c')):=by
 subst hn
 have vb:∀k∈v.ownBlock.toList,nv≤k∧∃cs,Blk W k 36 cs:=fun k hk=>own_ge hv (opt_mem hk)
 have f1:Fr W w1 v.ownBlock.toList:=((Fr.of_below h5 v.ownBlock.toList).alloc o).trans (l':=v.ownBlock.toList) ⟨hg.os,hg.tape,hg.output,hg.size,fun k hk hl=>hg.block k hk (fun e=>hl (by rw [← e];simp))⟩ (fun y hy=>.inl hy)
 have f2:Fr W (w1.setCell ⟨B3,0,none⟩ (.slice (some ⟨g',0,none⟩) (pre.length + 1) c')) (B3 :: v.ownBlock.toList):=(f1.mono (fun y hy=>.inl (List.mem_cons_of_mem _ hy))).set (.inl List.mem_cons_self) 0 _
 have off':∀{y T cs},Blk W y T cs→T≠182→T≠36→y ∉ (B3 :: v.ownBlock.toList):=fun {y T cs} hy t1 t2 hm=>by
  rcases List.mem_cons.1 hm with rfl | hm
  ·exact hy.ty hb t1 rfl
  ·obtain ⟨_,cs',hc⟩:=vb y hm;exact hy.ty hc t2 rfl
 have hb1:Blk w1 B3 182 #[v]:=((hb.keep h5).alloc o).grown hg (fun e=>by obtain ⟨_,cs,hc⟩:=vb B3 (by rw [← e];simp);exact hc.ty hb (by decide) rfl)
 obtain ⟨gcs,hgcs⟩:=hgt
 refine ⟨kf_of_fr f2 (fun y hy=>?_),⟨⟨?_,?_⟩,?_,⟨_,P ++ [(rv,chk l x)],hb1.set 0 _,?_,by simp [hPl],?_,?_⟩,bel_fr h.bel f2 (Nat.le_trans hnw h.bel.size) (fun y hy=>?_)⟩⟩
 ·rcases List.mem_cons.1 hy with rfl | hy
  ·exact .inr ⟨_,_,hb⟩
  ·obtain ⟨_,cs,hc⟩:=vb y hy;exact .inr ⟨_,cs,hc⟩
 ·exact h.ch.s.fr f2 (fun hm=>(List.mem_cons.1 hm).elim (fun e=>h.ch.s.ty hb (by decide) e) (fun hm=>by have:=(vb _ hm).1;omega))
 ·exact h.ch.n.fr f2 (off' h.ch.n (by decide) (by decide))
 ·exact its_same h.its f2.size (f2.block g hgcs.lt (off' hgcs (by decide) (by decide)))
 ·rw [List.length_append,show pvals (P ++ [(rv,chk l x)])=pvals P ++ [rv] by simp [pvals]]
  refine own_same hown fun k cs e _ hk=>Below.heap_setCell _ _ _ _ ?_
  show k≠B3
  exact hk.ty hb1 (by decide)
 ·intro y hy
  rcases List.mem_append.1 hy with hy | hy
  ·obtain ⟨q1,q2⟩:=hP y hy
   exact ⟨q1.same fun k cs _ hk=>f2.block k hk.lt (off' hk (by decide) (by decide)),q2⟩
  ·simp at hy
   subst hy
   refine ⟨?_,hx⟩
   have r1:RR w1 rv (chk l x):=hr5.same fun k cs _ hk=>by
    have:=(hk.alloc o).grown hg (fun e=>by
     obtain ⟨_,cs',hc⟩:=vb k (by rw [← e];simp)
     exact hk.ty (hc.keep h5) (by decide) rfl)
    unfold Blk at this hk
    rw [this,hk]
   exact r1.same fun k cs _ hk=>Below.heap_setCell _ _ _ _ (by show k≠B3;exact hk.ty hb1 (by decide))
 ·have:pall (P ++ [(rv,chk l x)])=pall P ++ chk l x:=by simp [pall]
  rw [this,hPa,List.flatMap_append];simp
 ·rcases List.mem_cons.1 hy with rfl | hy
  ·exact hB3
  ·exact Nat.le_trans hnv (vb y hy).1
theorem chunk_mk (p:Option Addr) (n c:Nat) (w:World):
  Calls Tryz.prog 195 #[.slice p n c,.int .i64 32] w fun e w'=>e=.returned (.func (.func 271) #[] #[.pointer (some ⟨w.heap.size,0,none⟩),.pointer (some ⟨w.heap.size + 1,0,none⟩)])∧w'=(w.alloc (.cells #[.slice p n c] 36)).alloc (.cells #[.int .i64 32] 3):=by
 go_enter Tryz.func195,Tryz.ntmps195
 go_wp2
 go_ret
 exact ⟨rfl,rfl⟩
theorem own_base {T:TypeId} {w:World} {v:Value} {n k B B':Nat} {xs:List Value} (h:w.ownsRow B T k v n xs) (hB:B'≤B):w.ownsRow B' T k v n xs:=by
 refine ⟨h.1,?_⟩
 rcases h.2 with c | ⟨g,cap,cur,e,hb,r⟩
 ·exact .inl c
 ·exact .inr ⟨g,cap,cur,e,Nat.le_trans hB hb,r⟩
set_option maxRecDepth 100000 in
set_option maxHeartbeats 2000000 in
theorem blocks_many (p:Option Addr) (cap:Nat) (L:List Rn) (w:World) (h:RR w (.slice p L.length cap) L) (hl:64 < L.length) (hm:L.length≤1000):
  Calls Tryz.prog 124 #[.slice p L.length cap] w (BlkPost w L):=by
 obtain ⟨g,cap0,e,hg⟩:=h.form1 (by omega)
 injection e with e1 _ e3
 subst e1 e3
 obtain ⟨_,cur,hcur,hcc,hcm,_⟩:=h.inv
 have hcm':cap≤9223372036854775807:=by unfold maxLen at hcm;omega
 obtain ⟨i0,hi,hz0,hz1,hz2⟩:=info_parts ub_sl_info
 have HI:=Lib.hid hi
 have HZ0:=Lib.hid hz0
 have HZ1:=Lib.hid hz1
 have HZ2:=Lib.hid hz2
 have HIt:=Lib.hid h.its
 have HCu:=Lib.hid hcur
 have d64:decide ((L.length:Int)≤64)=false:=decide_eq_false (by omega)
 have HSeq:=Lib.hid (fun bs bn=>chunk_seq 5 g 0 cap bs bn L (by omega) hcc hcm' hm)
 have HC:=Lib.hid (chunk_mk (some ⟨g,0,none⟩) L.length cap (w.alloc (.cells #[.slice none 0 0] 182)))
 have hL1:chN L.length≤1000:=by unfold chN;omega
 have hL0:0 < chN L.length:=by unfold chN;omega
 have HL1:=Lib.hid hL1
 have HL0:=Lib.hid hL0
 have hgl:=hg
 clear hi hz0 hz1 hz2 h hcur hcm hcc hcm' hL1 hL0
 refine (callsIn_wide (n:=6)).1 ?_
 refine callsIn_of_wp_marks Tryz.func124 rfl trivial ?_ rfl
 simp only [Tryz.ntmps124,List.size_toArray,List.length_cons,List.length_nil,Nat.reduceAdd,Nat.reduceSub,Array.replicate_succ,Array.replicate_zero,List.push_toArray,List.append_toArray,List.nil_append,List.cons_append]
 gi_wp2_with fail
 refine ⟨trivial,?_⟩
 refine (callsIn_wide.2 HC.out).mono ?_
 rintro e w2 ⟨rfl,rfl⟩
 have s1:(w.alloc (.cells #[.slice none 0 0] 182)).heap.size=w.heap.size + 1:=by simp
 rw [s1]
 have hB2:Below w.heap.size w (((w.alloc (.cells #[.slice none 0 0] 182)).alloc (.cells #[.slice (some ⟨g,0,none⟩) L.length cap] 36)).alloc (.cells #[.int .i64 32] 3)):=(((Below.refl _ _).alloc (Nat.le_refl _) _).alloc (by simp) _).alloc (by simp;omega) _
 have s2:(((w.alloc (.cells #[.slice none 0 0] 182)).alloc (.cells #[.slice (some ⟨g,0,none⟩) L.length cap] 36)).alloc (.cells #[.int .i64 32] 3)).heap.size=w.heap.size + 3:=by simp
 have hI0:BlI g 0 cap (w.heap.size + 1) (w.heap.size + 1 + 1) w.heap.size (w.heap.size + 3) w.heap.size L w [] (((w.alloc (.cells #[.slice none 0 0] 182)).alloc (.cells #[.slice (some ⟨g,0,none⟩) L.length cap] 36)).alloc (.cells #[.int .i64 32] 3)):=by
  refine ⟨⟨?_,?_⟩,HIt.out.keep hB2,⟨_,[],((Blk.new _ _ _).alloc _).alloc _,World.ownsRow_nil _ _ _ _,rfl,(fun x hx=>by cases hx),rfl⟩,hB2⟩
  ·have:=(Blk.new (w.alloc (.cells #[.slice none 0 0] 182)) 36 #[.slice (some ⟨g,0,none⟩) L.length cap]).alloc (.cells #[.int .i64 32] 3)
   rw [s1] at this
   exact this
  ·have:=Blk.new ((w.alloc (.cells #[.slice none 0 0] 182)).alloc (.cells #[.slice (some ⟨g,0,none⟩) L.length cap] 36)) 3 #[.int .i64 32]
   simpa using this
 have HCu2:=Lib.hid (HCu.out.keep hB2)
 have HI0:=Lib.hid hI0
 have HS2:=Lib.hid s2
 have HB2:=Lib.hid hB2
 clear hI0 s1 s2 hB2 HC
 generalize (((w.alloc (.cells #[.slice none 0 0] 182)).alloc (.cells #[.slice (some ⟨g,0,none⟩) L.length cap] 36)).alloc (.cells #[.int .i64 32] 3))=w3 at *
 generalize hn0:w.heap.size=n0 at *
 have HN0:=Lib.hid hn0
 clear hn0
 gi_wp2_with fail
 refine wp_range1 (gf:=271) (lb:=#[.pointer (some ⟨n0 + 1,0,none⟩),.pointer (some ⟨n0 + 1 + 1,0,none⟩)]) rfl (enters_of Tryz.func271 (by kernel_rfl) rfl) (HSeq.out (n0 + 1) (n0 + 1 + 1)) (fun _=>rfl)
  (BlI g 0 cap (n0 + 1) (n0 + 1 + 1) n0 (n0 + 3) n0 L w) (fun _ _ _=>False) (bli_own _ _ _ _ _ _ _ _ _ _ _ (by rw [HS2.out];omega) (by rw [HN0.out];exact Nat.le_refl _) (by rw [HS2.out];omega)) (fun _=>ownFrom_pure _ _) (fun pre A h=>h.ch) HI0.out
  (fun x=>{tmps:=#[.slice (some ⟨g,0,none⟩) L.length cap,undef,.slice none 0 0,.pointer (some ⟨n0,0,none⟩),.slice (some ⟨g,32 * x * 2,none⟩) (chk L x).length (chk L x).length,.slice (some ⟨g,0,none⟩) L.length cap,.int .i64 (L.length:Int),.bool false,undef,undef,.slice (some ⟨g,0,none⟩) L.length cap,.func (.func 271) #[] #[.pointer (some ⟨n0 + 1,0,none⟩),.pointer (some ⟨n0 + 1 + 1,0,none⟩)],.slice (some ⟨g,32 * x * 2,none⟩) (chk L x).length (chk L x).length,undef,undef,undef,undef,undef,undef],defers:=[]})
  ?assign ?body ?done (fun D c pre W _ _ _ h _=>h.elim)
 case assign=>
  intro l x W K hK
  gi_wp2
  exact hK
 case body=>
  rintro l pre x W hI hok
  obtain ⟨v,P,hb,hv,hPl,hP,hPa⟩:=hI.box
  have hx32:32 * x < L.length:=by
   have:=hok.mem (List.mem_append_right _ List.mem_cons_self)
   have:=List.mem_range.1 this
   unfold chN at this
   omega
  have hcl:(chk L x).length=min 32 (L.length - 32 * x):=by unfold chk;rw [List.length_take,List.length_drop]
  have hpl:pre.length + 1≤1000:=by
   have h1:=hok.length_le
   rw [List.length_append,List.length_range] at h1
   have:=HL1.out
   have h3:[x].length=1:=rfl
   omega
  have HCl:Hid (Calls Tryz.prog 196 #[.slice (some ⟨g,32 * x * 2,none⟩) (chk L x).length (chk L x).length] W.drew (NewRow W.drew (chk L x))):=Lib.hid (by
   have h1:=(chk_its hI.its hx32).keep ((Drawn.drew W).below _)
   rw [Nat.zero_add] at h1
   exact clone_any _ _ _ _ h1 (by omega) (by omega))
  have hgt:∃cs,Blk W g 59 cs:=⟨cur,HCu.out.below (by have:=hI.bel;rw [← HN0.out] at this;exact this) (by rw [HN0.out];omega)⟩
  obtain ⟨p0,c0,rfl⟩:∃p c,v=.slice p pre.length c:=by
   rcases hv.2 with ⟨e,k⟩ | ⟨g,cap,cur,e,_⟩
   ·exact ⟨none,0,by rw [e,k]⟩
   ·exact ⟨_,cap,e⟩
  have HGt:=Lib.hid hgt
  have HIx:=Lib.hid hI
  have Hb:=Lib.hid hb
  have HV:=Lib.hid hv
  have HPl:=Lib.hid hPl
  have HP:=Lib.hid hP
  have HPa:=Lib.hid hPa
  have HX0:Hid (0 < (chk L x).length):=Lib.hid (by omega)
  have e0:W.drew.cell? ⟨n0,0,none⟩=some (.slice p0 pre.length c0):=hb.drew.cell (i:=0) rfl
  have HNa:Hid (some n0≠(Value.slice p0 pre.length c0).ownBlock):=Lib.hid (fun e=>by obtain ⟨_,cs,hc⟩:=own_ge hv e.symm;exact hc.ty hb (by decide) rfl)
  clear hI hb hv hPl hP hPa hok hgt hx32 hcl HI0 HSeq
  gi_wp2
  refine region_held_round (S:=fun _=>True) (by rintro ⟨_,_,h⟩;exact h) (by kernel_rfl) (by kernel_rfl) trivial (fun hHeld=>?_)
  simp only [List.size_toArray,List.length_cons,List.length_nil,Nat.reduceAdd,Array.replicate_succ,Array.replicate_zero,List.push_toArray,List.nil_append,List.cons_append]
  refine wpAnyH_take (i:=1) (oi:=⟨some 14,_,_,_,_,_⟩) (v:=?v1) rfl (by kernel_rfl) (by kernel_rfl) (by kernel_rfl) (fun _ _ _ h=>h) (Or.inl ⟨by rfl,?y1⟩) (by assumption) ?r1
  case y1=>intro w hSw;clear hSw;go_simp;(try with_reducible rfl)
  simp only [Act.put,List.setIfInBounds_toArray,List.set_cons_zero,List.set_cons_succ]
  refine wpAnyH_ready (rs:=[0,2]) (by kernel_rfl) (by simp) ?_
  refine AllReadyH.cons (o:=⟨some 13,_,_,_,_,_⟩) rfl (fun K hK=>?_) ?_
  ·go_simp
   refine hK.out _ _ hHeld (fun hHeld=>?_)
   clear hK
   try simp only [List.setIfInBounds_toArray,List.set_cons_zero]
   refine wpAnyH_ready (rs:=[2]) (by kernel_rfl) (by simp) ?_
   refine AllReadyH.cons (o:=⟨some 15,_,_,_,_,_⟩) rfl (fun K hK=>?_) AllReadyH.nil
   go_simp
   refine (HCl.out).mono ?_
   rintro e W5 ⟨rv,rfl,k1,k2,k3⟩
   obtain ⟨g2,c2,rfl,_⟩:=k1.form1 HX0.out
   have HB5:=Lib.hid (((Drawn.drew W).below W.heap.size).trans (k2.mono (Nat.le_refl _)))
   have HR5:=Lib.hid k1
   clear k1 k2 k3
   have e5:W5.cell? ⟨n0,0,none⟩=some (.slice p0 pre.length c0):=(Hb.out.keep HB5.out).cell (i:=0) rfl
   have e6:(W5.alloc (.cells #[(.slice (some ⟨g2,0,none⟩) (chk L x).length c2)] 36)).cell? ⟨n0,0,none⟩=some (.slice p0 pre.length c0):=cell_al e5 _
   have HE6:=Lib.hid e6
   have HFa:Hid ((W5.alloc (.cells #[(.slice (some ⟨g2,0,none⟩) (chk L x).length c2)] 36)).frozen? ⟨n0,0,none⟩=false):=Lib.hid (((Hb.out.keep HB5.out).alloc _).free 0)
   have HOw:Hid ((W5.alloc (.cells #[(.slice (some ⟨g2,0,none⟩) (chk L x).length c2)] 36)).drew.ownsRow (n0 + 3) 36 1 (.slice p0 pre.length c0) pre.length (pvals P)):=Lib.hid (own_same HV.out fun k cs _ _ hk=>(Below.heap_alloc _ _ _ (Nat.lt_of_lt_of_le hk.lt HB5.out.size)).trans (HB5.out.block k hk.lt))
   have HNw:Hid (Blk (W5.alloc (.cells #[(.slice (some ⟨g2,0,none⟩) (chk L x).length c2)] 36)).drew W5.heap.size 36 #[(.slice (some ⟨g2,0,none⟩) (chk L x).length c2)]):=Lib.hid (Blk.new _ _ _).drew
   have HBs:Hid (n0 + 3≤W5.heap.size):=Lib.hid (by have h1:=HIx.out.ch.n.lt;have h2:=HB5.out.size;have h3:=HIx.out.ch.s.lt;omega)
   dsimp only
   refine hK.out _ _ hHeld (fun hHeld=>?_)
   clear hK
   try simp only [List.setIfInBounds_toArray,List.set_cons_zero,List.set_cons_succ]
   refine wpAnyH_ready (rs:=[3]) (by kernel_rfl) (by simp) ?_
   refine AllReadyH.cons (o:=⟨some 16,_,_,_,_,_⟩) rfl (fun K hK=>?_) AllReadyH.nil
   go_simp
   refine hK.out _ _ hHeld (fun hHeld=>?_)
   clear hK
   try simp only [List.setIfInBounds_toArray,List.set_cons_zero,List.set_cons_succ]
   refine wpAnyH_ready (rs:=[4]) (by kernel_rfl) (by simp) ?_
   refine AllReadyH.cons (o:=⟨some 17,_,_,_,_,_⟩) rfl (fun K hK=>?_) AllReadyH.nil
   ((refine step_append_lies _ (by rfl) _ _ _ (by rfl) (n0 + 3) 36 i0 (.slice none 0 0) 1 24 Tryz.underlying182 HI.out HZ0.out HZ1.out HZ2.out rfl (by decide) _ pre.length (pvals P) (by rfl) HOw.out ⟨W5.heap.size,0,none⟩ 1 1 [(.slice (some ⟨g2,0,none⟩) (chk L x).length c2)] (by rfl) (by rfl) (World.news_of_block HNw.out) (by simp [Value.oneCell']) (by decide) (by unfold maxLen;omega) (by omega) (Nat.le_trans HBs.out (by simp)) (W5.heap.size + 1) (by simp) ?_);intro g5 cap5 w7 hown hgrow hat hltg)
   have HOn:=Lib.hid hown
   have HGr:=Lib.hid hgrow
   clear hown hgrow hat
   have u1:=(HGr.out.cell_far ⟨n0,0,none⟩ (World.block_lt_of_cell? _ _ HE6.out) HNa.out).trans HE6.out
   have u2:=(HGr.out.frozen_far ⟨n0,0,none⟩ (World.block_lt_of_cell? _ _ HE6.out) HNa.out).trans HFa.out
   refine hK.out _ _ hHeld (fun hHeld=>?_)
   clear hK
   try simp only [List.setIfInBounds_toArray,List.set_cons_zero,List.set_cons_succ]
   refine wpAnyH_ready (rs:=[5]) (by kernel_rfl) (by simp) ?_
   refine AllReadyH.cons (o:=⟨none,_,_,_,_,_⟩) rfl (fun K hK=>?_) AllReadyH.nil
   go_simp
   refine hK.out _ _ hHeld (fun hHeld=>?_)
   clear hK
   try simp only [List.setIfInBounds_toArray,List.set_cons_zero,List.set_cons_succ]
   refine wpAnyH_done (by kernel_rfl) ?_ _
   exact bl_round HIx.out (by rw [HN0.out];exact Nat.le_refl _) (Nat.le_refl _) HGt.out (by omega) (by omega) HB5.out HR5.out HX0.out Hb.out HV.out HPl.out HP.out HPa.out rfl HOn.out HGr.out _
  refine AllReadyH.cons (o:=⟨some 15,_,_,_,_,_⟩) rfl (fun K hK=>?_) AllReadyH.nil
  go_simp
  refine (HCl.out).mono ?_
  rintro e W5 ⟨rv,rfl,k1,k2,k3⟩
  obtain ⟨g2,c2,rfl,_⟩:=k1.form1 HX0.out
  have HB5:=Lib.hid (((Drawn.drew W).below W.heap.size).trans (k2.mono (Nat.le_refl _)))
  have HR5:=Lib.hid k1
  clear k1 k2 k3
  have e5:W5.cell? ⟨n0,0,none⟩=some (.slice p0 pre.length c0):=(Hb.out.keep HB5.out).cell (i:=0) rfl
  have e6:(W5.alloc (.cells #[(.slice (some ⟨g2,0,none⟩) (chk L x).length c2)] 36)).cell? ⟨n0,0,none⟩=some (.slice p0 pre.length c0):=cell_al e5 _
  have HE6:=Lib.hid e6
  have HFa:Hid ((W5.alloc (.cells #[(.slice (some ⟨g2,0,none⟩) (chk L x).length c2)] 36)).frozen? ⟨n0,0,none⟩=false):=Lib.hid (((Hb.out.keep HB5.out).alloc _).free 0)
  have HOw:Hid ((W5.alloc (.cells #[(.slice (some ⟨g2,0,none⟩) (chk L x).length c2)] 36)).drew.ownsRow (n0 + 3) 36 1 (.slice p0 pre.length c0) pre.length (pvals P)):=Lib.hid (own_same HV.out fun k cs _ _ hk=>(Below.heap_alloc _ _ _ (Nat.lt_of_lt_of_le hk.lt HB5.out.size)).trans (HB5.out.block k hk.lt))
  have HNw:Hid (Blk (W5.alloc (.cells #[(.slice (some ⟨g2,0,none⟩) (chk L x).length c2)] 36)).drew W5.heap.size 36 #[(.slice (some ⟨g2,0,none⟩) (chk L x).length c2)]):=Lib.hid (Blk.new _ _ _).drew
  have HBs:Hid (n0 + 3≤W5.heap.size):=Lib.hid (by have h1:=HIx.out.ch.n.lt;have h2:=HB5.out.size;have h3:=HIx.out.ch.s.lt;omega)
  dsimp only
  refine hK.out _ _ hHeld (fun hHeld=>?_)
  clear hK
  try simp only [List.setIfInBounds_toArray,List.set_cons_zero,List.set_cons_succ]
  refine wpAnyH_ready (rs:=[0,3]) (by kernel_rfl) (by simp) ?_
  refine AllReadyH.cons (o:=⟨some 13,_,_,_,_,_⟩) rfl (fun K hK=>?_) ?_
  ·go_simp
   refine hK.out _ _ hHeld (fun hHeld=>?_)
   clear hK
   try simp only [List.setIfInBounds_toArray,List.set_cons_zero]
   refine wpAnyH_ready (rs:=[3]) (by kernel_rfl) (by simp) ?_
   refine AllReadyH.cons (o:=⟨some 16,_,_,_,_,_⟩) rfl (fun K hK=>?_) AllReadyH.nil
   go_simp
   refine hK.out _ _ hHeld (fun hHeld=>?_)
   clear hK
   try simp only [List.setIfInBounds_toArray,List.set_cons_zero,List.set_cons_succ]
   refine wpAnyH_ready (rs:=[4]) (by kernel_rfl) (by simp) ?_
   refine AllReadyH.cons (o:=⟨some 17,_,_,_,_,_⟩) rfl (fun K hK=>?_) AllReadyH.nil
   ((refine step_append_lies _ (by rfl) _ _ _ (by rfl) (n0 + 3) 36 i0 (.slice none 0 0) 1 24 Tryz.underlying182 HI.out HZ0.out HZ1.out HZ2.out rfl (by decide) _ pre.length (pvals P) (by rfl) HOw.out ⟨W5.heap.size,0,none⟩ 1 1 [(.slice (some ⟨g2,0,none⟩) (chk L x).length c2)] (by rfl) (by rfl) (World.news_of_block HNw.out) (by simp [Value.oneCell']) (by decide) (by unfold maxLen;omega) (by omega) (Nat.le_trans HBs.out (by simp)) (W5.heap.size + 1) (by simp) ?_);intro g5 cap5 w7 hown hgrow hat hltg)
   have HOn:=Lib.hid hown
   have HGr:=Lib.hid hgrow
   clear hown hgrow hat
   have u1:=(HGr.out.cell_far ⟨n0,0,none⟩ (World.block_lt_of_cell? _ _ HE6.out) HNa.out).trans HE6.out
   have u2:=(HGr.out.frozen_far ⟨n0,0,none⟩ (World.block_lt_of_cell? _ _ HE6.out) HNa.out).trans HFa.out
   refine hK.out _ _ hHeld (fun hHeld=>?_)
   clear hK
   try simp only [List.setIfInBounds_toArray,List.set_cons_zero,List.set_cons_succ]
   refine wpAnyH_ready (rs:=[5]) (by kernel_rfl) (by simp) ?_
   refine AllReadyH.cons (o:=⟨none,_,_,_,_,_⟩) rfl (fun K hK=>?_) AllReadyH.nil
   go_simp
   refine hK.out _ _ hHeld (fun hHeld=>?_)
   clear hK
   try simp only [List.setIfInBounds_toArray,List.set_cons_zero,List.set_cons_succ]
   refine wpAnyH_done (by kernel_rfl) ?_ _
   exact bl_round HIx.out (by rw [HN0.out];exact Nat.le_refl _) (Nat.le_refl _) HGt.out (by omega) (by omega) HB5.out HR5.out HX0.out Hb.out HV.out HPl.out HP.out HPa.out rfl HOn.out HGr.out _
  refine AllReadyH.cons (o:=⟨some 16,_,_,_,_,_⟩) rfl (fun K hK=>?_) AllReadyH.nil
  go_simp
  refine hK.out _ _ hHeld (fun hHeld=>?_)
  clear hK
  try simp only [List.setIfInBounds_toArray,List.set_cons_zero,List.set_cons_succ]
  refine wpAnyH_ready (rs:=[0]) (by kernel_rfl) (by simp) ?_
  refine AllReadyH.cons (o:=⟨some 13,_,_,_,_,_⟩) rfl (fun K hK=>?_) AllReadyH.nil
  go_simp
  refine hK.out _ _ hHeld (fun hHeld=>?_)
  clear hK
  try simp only [List.setIfInBounds_toArray,List.set_cons_zero]
  refine wpAnyH_ready (rs:=[4]) (by kernel_rfl) (by simp) ?_
  refine AllReadyH.cons (o:=⟨some 17,_,_,_,_,_⟩) rfl (fun K hK=>?_) AllReadyH.nil
  ((refine step_append_lies _ (by rfl) _ _ _ (by rfl) (n0 + 3) 36 i0 (.slice none 0 0) 1 24 Tryz.underlying182 HI.out HZ0.out HZ1.out HZ2.out rfl (by decide) _ pre.length (pvals P) (by rfl) HOw.out ⟨W5.heap.size,0,none⟩ 1 1 [(.slice (some ⟨g2,0,none⟩) (chk L x).length c2)] (by rfl) (by rfl) (World.news_of_block HNw.out) (by simp [Value.oneCell']) (by decide) (by unfold maxLen;omega) (by omega) (Nat.le_trans HBs.out (by simp)) (W5.heap.size + 1) (by simp) ?_);intro g5 cap5 w7 hown hgrow hat hltg)
  have HOn:=Lib.hid hown
  have HGr:=Lib.hid hgrow
  clear hown hgrow hat
  have u1:=(HGr.out.cell_far ⟨n0,0,none⟩ (World.block_lt_of_cell? _ _ HE6.out) HNa.out).trans HE6.out
  have u2:=(HGr.out.frozen_far ⟨n0,0,none⟩ (World.block_lt_of_cell? _ _ HE6.out) HNa.out).trans HFa.out
  refine hK.out _ _ hHeld (fun hHeld=>?_)
  clear hK
  try simp only [List.setIfInBounds_toArray,List.set_cons_zero,List.set_cons_succ]
  refine wpAnyH_ready (rs:=[5]) (by kernel_rfl) (by simp) ?_
  refine AllReadyH.cons (o:=⟨none,_,_,_,_,_⟩) rfl (fun K hK=>?_) AllReadyH.nil
  go_simp
  refine hK.out _ _ hHeld (fun hHeld=>?_)
  clear hK
  try simp only [List.setIfInBounds_toArray,List.set_cons_zero,List.set_cons_succ]
  refine wpAnyH_done (by kernel_rfl) ?_ _
  exact bl_round HIx.out (by rw [HN0.out];exact Nat.le_refl _) (Nat.le_refl _) HGt.out (by omega) (by omega) HB5.out HR5.out HX0.out Hb.out HV.out HPl.out HP.out HPa.out rfl HOn.out HGr.out _
 case done=>
  rintro D xs W hD hDl rfl hI hK
  have hP:=(bli_own g 0 cap (n0 + 1) (n0 + 1 + 1) n0 (n0 + 3) n0 w3.heap.size L w (by rw [HS2.out];omega) (by rw [HN0.out];exact Nat.le_refl _) (by rw [HS2.out];omega)).putObj (.deferred none) hI hD hK rfl
  obtain ⟨v,P,hb,hv,hPl,hPp,hPa⟩:=hI.box
  have c0:=hb.cell (i:=0) rfl
  have hv2:=ownsRow_putObj hv (.deferred none) hK rfl
  have hk:=kept_grown (grownBy_putObj' W D (.deferred none)) (fun r e=>by cases e;exact ⟨_,hK,rfl⟩)
  have HP2:=Lib.hid (hPp.same fun g cs hb=>hk g _ cs hb)
  have HV2:=Lib.hid hv2
  have HP:=Lib.hid hP.bel
  have HK:=Lib.hid hK
  have HPl:=Lib.hid hPl
  have HPa:=Lib.hid hPa
  clear hI hb hv hv2 hP hD hDl hK HI0 HSeq hPl hPp hPa hk
  gi_wp2
  refine ⟨by simp,.inl ⟨_,_,rfl,run_takeDeferred HK.out,?_⟩⟩
  have hlr:P.length=chN L.length:=by rw [HPl.out,List.length_range]
  refine ⟨v,?_,⟨v,P,rfl,by rw [HN0.out,HPl.out];exact own_base HV2.out (by omega),HP2.out,by rw [HPa.out];exact chk_all L,by rw [hlr];exact HL1.out,by rw [hlr];exact HL0.out⟩,by rw [HN0.out];exact HP.out⟩
  simp [results,Tryz.f124]
theorem blocks_all (p:Option Addr) (cap:Nat) (L:List Rn) (w:World) (h:RR w (.slice p L.length cap) L) (hp:0 < L.length) (hm:L.length≤1000):
  Calls Tryz.prog 124 #[.slice p L.length cap] w (BlkPost w L):=by
 by_cases c:L.length≤64
 ·exact blocks_few (.slice p L.length cap) p cap L w h hp c
 ·exact blocks_many p cap L w h (by omega) hm
end Go.Proofs.YteoepabmnbkabaaGreatDoor

set_option linter.unusedVariables false
namespace Go.Proofs.YteoepabmnbkabaaGreatDoor
open Go.RowKit
structure InsPost (w:World) (n:Nat) (vals:List Value) (e:Ending) (w':World):Prop where
 at_:∃v,e=.returned v∧w'.ownsRow w.heap.size 36 1 v n vals
 bel:Below w.heap.size w w'
theorem ins_form {B n:Nat} {v:Value} {w:World} {xs:List Value} (hp:0 < n) (h:w.ownsRow B 36 1 v (0 + n) xs):∃g c,v=.slice (some ⟨g,0,none⟩) n c:=by
 rcases h.2 with ⟨_,e⟩ | ⟨g',cap',cur,e,_⟩
 ·omega
 ·exact ⟨g',cap',by rw [e,Nat.zero_add]⟩
theorem insert_new (v:Value) (n:Nat) (vals:List Value) (B:Nat) (w:World) (h:w.ownsRow B 36 1 v n vals) (hp:0 < n) (hn:n≤1000) (h1:∀u∈vals,u.oneCell'=true):
  Calls Tryz.prog 191 #[.slice none 0 0,.int .i64 0,v] w (InsPost w n vals):=by
 obtain ⟨g,cap,rfl⟩:∃g cap,v=.slice (some ⟨g,0,none⟩) n cap:=by
  rcases h.2 with ⟨_,e⟩ | ⟨g,cap,cur,e,_⟩
  ·omega
  ·exact ⟨g,cap,e⟩
 obtain ⟨i0,hi,hz0,hz1,hz2⟩:=info_parts ub_sl_info
 have HO:Hid (w.ownsRow w.heap.size 36 1 (.slice none 0 0) 0 []):=Lib.hid (World.ownsRow_nil _ _ _ _)
 have HC:Hid (∀j u,vals[j]? =some u→w.cell? ((⟨g,0,none⟩:Addr).add j)=some u):=Lib.hid (fun j u hu=>h.cells (g:=g) rfl j u hu)
 have HL:Hid (vals.length=n * 1):=Lib.hid h.1
 have H1:=Lib.hid h1
 have d0:((n:Int) == 0)=false:=beq_eq_false_iff_ne.2 (by omega)
 clear h h1
 go_enter Tryz.func191,Tryz.ntmps191
 go_wp2_with (at_builtin;(refine wpList_append_own_at _ rfl _ _ 182 rfl w.heap.size 36 i0 (.slice none 0 0) 1 24 Tryz.underlying182 hi hz0 hz1 hz2 rfl (by decide) (.slice none 0 0) 0 [] rfl HO.out ⟨g,0,none⟩ n cap vals rfl HL.out HC.out H1.out (by unfold maxLen;omega) (by omega) (Nat.le_refl _) ?_);intro v' w2 hown hgr hnil hat;obtain ⟨g',c',rfl⟩:=ins_form hp hown;have K1:=Lib.hid hown;have K2:=Lib.hid hgr;clear hown hgr hnil hat)
 go_ret
 exact ⟨⟨_,rfl,by simpa using K1.out⟩,(Below.refl w.heap.size w).grown K2.out (Nat.le_refl _) (fun k e=>by cases e)⟩
set_option maxRecDepth 100000 in
theorem replace_new (v:Value) (n:Nat) (vals:List Value) (B:Nat) (w:World) (h:w.ownsRow B 36 1 v n vals) (hp:0 < n) (hn:n≤1000) (h1:∀u∈vals,u.oneCell'=true):
  Calls Tryz.prog 123 #[.slice none 0 0,.int .i64 0,.int .i64 0,v] w (InsPost w n vals):=by
 have HI:=Lib.hid (insert_new v n vals B w h hp hn h1)
 clear h h1
 go_enter Tryz.func123,Tryz.ntmps123
 go_wp2_with fail
 refine (HI.out).mono ?_
 rintro e w' ⟨⟨u,rfl,k1⟩,k2⟩
 have H1:=Lib.hid k1
 have H2:=Lib.hid k2
 clear k1 k2
 go_wp2
 go_ret
 exact ⟨⟨_,rfl,H1.out⟩,H2.out⟩
theorem pall_take {P:List (Value × List Rn)} {k:Nat} (h:k < P.length):pall (P.take (k + 1))=pall (P.take k) ++ (P.getD k (.slice none 0 0,[])).2:=by
 rw [List.take_succ_eq_append_getElem h]
 have e:P.getD k (.slice none 0 0,[])=P[k]:=by rw [List.getD_eq_getElem?_getD,List.getElem?_eq_getElem h];rfl
 rw [e]
 unfold pall
 rw [List.flatMap_append]
 simp only [List.flatMap_cons,List.flatMap_nil,List.append_nil]
theorem pall_take_le (P:List (Value × List Rn)) (k:Nat):(pall (P.take k)).length≤(pall P).length:=by
 have:pall P=pall (P.take k) ++ pall (P.drop k):=by unfold pall;rw [← List.flatMap_append,List.take_append_drop]
 rw [this];simp
theorem Parts.at_ {w:World} {P:List (Value × List Rn)} (h:Parts w P) {k:Nat} (hk:k < P.length):∃p c,(P.getD k (.slice none 0 0,[])).1=.slice p (P.getD k (.slice none 0 0,[])).2.length c∧RR w (.slice p (P.getD k (.slice none 0 0,[])).2.length c) (P.getD k (.slice none 0 0,[])).2∧0 < (P.getD k (.slice none 0 0,[])).2.length∧(pvals P)[k]? =some (.slice p (P.getD k (.slice none 0 0,[])).2.length c):=by
 have e:P.getD k (.slice none 0 0,[])=P[k]:=by rw [List.getD_eq_getElem?_getD,List.getElem?_eq_getElem hk];rfl
 obtain ⟨h1,h2⟩:=h P[k] (List.getElem_mem hk)
 rw [e]
 obtain ⟨g,c,e1,_⟩:=h1.form1 h2
 refine ⟨_,_,e1,by rw [← e1];exact h1,h2,?_⟩
 simp [pvals,hk,e1]
set_option maxHeartbeats 1000000 in
theorem concat_all (v:Value) (P:List (Value × List Rn)) (B:Nat) (w:World) (h:w.ownsRow B 36 1 v P.length (pvals P)) (hP:Parts w P) (hp:0 < P.length) (hm:P.length≤1000) (hl:(pall P).length≤1000):
  Calls Tryz.prog 120 #[v] w (NewRow w (pall P)):=by
 obtain ⟨g,cap,rfl⟩:∃g cap,v=.slice (some ⟨g,0,none⟩) P.length cap:=by
  rcases h.2 with ⟨_,e⟩ | ⟨g,cap,cur,e,_⟩
  ·omega
  ·exact ⟨g,cap,e⟩
 have HC:Hid (∀j u,(pvals P)[j]? =some u→w.cell? ⟨g,j,none⟩=some u):=Lib.hid (fun j u hu=>by
  have:=h.cells (g:=g) rfl j u hu
  rwa [Go.WideShapes.add_plain,Nat.zero_add] at this)
 have hgl:g < w.heap.size:=(h.lt g rfl).2
 have HP:=Lib.hid hP
 have HG:=Lib.hid (grow_any (pall P).length w hl)
 have HLe:=Lib.hid (pall_take_le P)
 have HTk:=Lib.hid (fun k (hk:k < P.length)=>pall_take hk)
 clear h hP
 go_enter Tryz.func120,Tryz.ntmps120
 go_wp2
 go_loop [3,11] (fun s i=>∃k t:Nat,Hid (t=(pall (P.take k)).length)∧k≤P.length∧s=.int .i64 (t:Int)∧i=.int .i64 (k:Int)) (fun _ i=>P.length - (intOf i).toNat)
 case atStart=>exact ⟨0,0,Lib.hid rfl,Nat.zero_le _,rfl,rfl⟩
 case round=>
  obtain ⟨k,t,HT,hk,rfl,rfl⟩:=hrel
  have ht:t≤1000:=by have:=HLe.out k;have:=HT.out;omega
  by_cases hlt:k < P.length
  ·obtain ⟨p,c,e1,hr,h0,hv⟩:=HP.out.at_ hlt
   have hc:=HC.out k _ hv
   have hT2:Hid (t + (P.getD k (.slice none 0 0,[])).2.length=(pall (P.take (k + 1))).length):=Lib.hid (by rw [HTk.out k hlt,List.length_append,HT.out])
   have ht2:t + (P.getD k (.slice none 0 0,[])).2.length≤1000:=by have:=HLe.out (k + 1);have:=hT2.out;omega
   clear e1 hr h0 hv
   generalize (P.getD k (.slice none 0 0,[])).2.length=m at *
   go_wp2
   go_round
   case rel=>exact ⟨k + 1,t + m,hT2,by omega,by go_num,by go_num⟩
   case measure=>simp [intOf];omega
  ·obtain rfl:k=P.length:=by omega
   have hT3:Hid (t=(pall P).length):=Lib.hid (by rw [HT.out,List.take_length])
   have HG2:Hid (Calls Tryz.prog 187 #[.slice none 0 0,.int .i64 (t:Int)] w fun e w'=>∃v,e=.returned v∧RR w' v []∧Below w.heap.size w w'∧∀g,v.ownBlock=some g→w.heap.size≤g):=Lib.hid (by rw [hT3.out];exact HG.out)
   clear HG HT hT3
   go_wp2_with fail
   refine (HG2.out).mono ?_
   rintro e w' ⟨v,rfl,h1,h2,h3⟩
   have H1:=Lib.hid h1
   have H2:=Lib.hid h2
   have H3:=Lib.hid h3
   clear h1 h2 h3 HG2
   go_wp2
   go_loopw [6,27] (fun s i wr=>∃k:Nat,k≤P.length∧i=.int .i64 (k:Int)∧RR wr s (pall (P.take k))∧Below w.heap.size w wr∧∀g,s.ownBlock=some g→w.heap.size≤g) (fun _ i _=>P.length - (intOf i).toNat)
   case atStart=>exact ⟨0,Nat.zero_le _,rfl,H1.out,H2.out,H3.out⟩
   case round=>
    obtain ⟨k,hk,rfl,h1,h2,h3⟩:=hrel
    clear H1 H2 H3
    have H1:=Lib.hid h1
    have H2:=Lib.hid h2
    have H3:=Lib.hid h3
    clear h1 h2 h3
    by_cases hlt:k < P.length
    ·obtain ⟨p,c,e1,hr,h0,hv⟩:=HP.out.at_ hlt
     have hc:=(H2.out.cell (p:=⟨g,k,none⟩) hgl).trans (HC.out k _ hv)
     have HI:=Lib.hid ((hr.its).keep H2.out)
     have HB:Hid ((pall (P.take k)).length + (P.getD k (.slice none 0 0,[])).2.length≤1000000):=Lib.hid (by have:=HLe.out (k + 1);rw [HTk.out k hlt,List.length_append] at this;omega)
     have HE:=Lib.hid (HTk.out k hlt)
     clear e1 hr hv
     generalize (P.getD k (.slice none 0 0,[])).2=r at *
     go_wp2_with (at_builtin;(refine wpList_append_rr rfl _ _ rfl _ (pall (P.take k)) rfl H1.out p r.length c r rfl rfl h0 HI.out HB.out ?_);intro g' cap' w2 hR hgr hat)
     have HR:=Lib.hid hR
     have HGr:=Lib.hid hgr
     have HA:=Lib.hid hat
     clear hR hgr hat
     go_wp2
     go_roundw
     case rel=>
      refine ⟨k + 1,by omega,by go_num,by rw [HE.out];exact HR.out,H2.out.grown HGr.out H2.out.size (fun k e=>H3.out k e),?_⟩
      intro g e
      simp [Value.ownBlock] at e
      subst e
      rcases HA.out with k | k
      ·exact H3.out _ k.symm
      ·rw [k];exact H2.out.size
     case measure=>simp [intOf];omega
    ·obtain rfl:k=P.length:=by omega
     rw [List.take_length] at H1
     go_wp2
     go_ret
     exact ⟨_,rfl,H1.out,H2.out,H3.out⟩
end Go.Proofs.YteoepabmnbkabaaGreatDoor

set_option linter.unusedVariables false
namespace Go.Proofs.YteoepabmnbkabaaGreatDoor
open Go.RowKit
theorem fset_New (w:World):Calls Tryz.prog 58 #[] w fun e w'=>e=.returned (.pointer (some ⟨w.heap.size,0,none⟩))∧Blk w' w.heap.size 184 #[.slice none 0 0]∧Below w.heap.size w w':=by
 go_enter Tryz.func58,Tryz.ntmps58
 go_wp2
 go_ret
 exact ⟨rfl,Blk.new _ _ _,(Below.refl _ _).alloc (Nat.le_refl _) _⟩
def SetBlocks (w:World) (v:Value) (L:List Rn):Prop:=
 (v=.slice none 0 0∧L=[])∨∃P,w.ownsRow 0 36 1 v P.length (pvals P)∧Parts w P∧pall P=L∧P.length≤1000∧0 < P.length
structure PutNew (w:World) (b:Nat) (l:List Rn) (e:Ending) (w':World):Prop where
 ret:e=.returned (.int .i64 0)
 set:∃v L,Blk w' b 184 #[v]∧SetBlocks w' v L∧Puts [] l L∧L.length≤l.length
 fr:Fr w w' [b]
theorem contains_nil (p:Option Addr) (cap:Nat) (w:World):
  Calls Tryz.prog 117 #[.slice p 0 cap,.func (.func 118) #[] #[]] w fun e w'=>e=.returned (.bool false)∧Below w.heap.size w w':=by
 have HI:Hid (Calls Tryz.prog 185 #[.slice p 0 cap,.func (.func 118) #[] #[]] w fun e w'=>e=.returned (.int .i64 (-1))∧Below w.heap.size w w'):=Lib.hid (by
  go_enter Tryz.func185,Tryz.ntmps185
  go_wp2
  go_loop [8] (fun i=>i=.int .i64 0) (fun _=>0)
  case atStart=>exact rfl
  case round=>
   obtain rfl:=hrel
   go_wp2
   go_ret
   exact ⟨rfl,Below.refl _ _⟩)
 go_enter Tryz.func117,Tryz.ntmps117
 go_wp2_with fail
 refine (HI.out).mono ?_
 rintro e w' ⟨rfl,hw⟩
 have HW:=Lib.hid hw
 clear hw
 go_wp2
 go_ret
 exact ⟨rfl,HW.out⟩
set_option maxHeartbeats 1000000 in
theorem fput_wrong (b:Nat) (l:List Rn) (p:Option Addr) (c:Nat) (w:World) (hl:Its w p l) (hp:0 < l.length) (hk:l.length≤1000) (ho:l.all okB=false):
  Calls Tryz.prog 59 #[.pointer (some ⟨b,0,none⟩),.slice p l.length c] w fun e w'=>e=.returned (.int .i64 1)∧Below w.heap.size w w':=by
 obtain ⟨ad,rfl,_⟩:=hl.cells hp
 obtain ⟨g,off,rfl,hg,_⟩:=its_two hl hp
 have hc:=contains_any l g off c w hl hp hk
 rw [ho] at hc
 have HC:=Lib.hid hc
 clear hc hl
 go_enter Tryz.func59,Tryz.ntmps59
 go_wp2_with fail
 refine (HC.out).mono ?_
 rintro e w' ⟨rfl,hw⟩
 have HW:=Lib.hid hw
 clear hw
 go_wp2
 go_ret
 exact ⟨rfl,HW.out⟩
theorem fput_nil (b:Nat) (p:Option Addr) (c:Nat) (w:World):
  Calls Tryz.prog 59 #[.pointer (some ⟨b,0,none⟩),.slice p 0 c] w fun e w'=>e=.returned (.int .i64 0)∧Below w.heap.size w w':=by
 have HC:=Lib.hid (contains_nil p c w)
 go_enter Tryz.func59,Tryz.ntmps59
 go_wp2_with fail
 refine (HC.out).mono ?_
 rintro e w' ⟨rfl,hw⟩
 have HW:=Lib.hid hw
 clear hw
 go_wp2
 go_ret
 exact ⟨rfl,HW.out⟩
theorem fput_end {w W w8:World} {b:Nat} {l D:List Rn} {v:Value} {P:List (Value × List Rn)} {B8:Nat} (hb:Blk w b 184 #[.slice none 0 0]) (hB:Below w.heap.size w W)
  (hP:Parts W P) (ha:pall P=tog D) (hp1:P.length≤1000) (hp0:0 < P.length) (hPu:Puts [] l (tog D)) (hl:(tog D).length≤l.length)
  (ho:w8.ownsRow B8 36 1 v P.length (pvals P)) (hW:Below W.heap.size W w8) (hB8:w.heap.size≤B8):
  PutNew w b l (.returned (.int .i64 0)) (w8.setCell ⟨b,0,none⟩ v):=by
 have h8:=hB.trans (hW.mono hB.size)
 have hb8:=hb.below h8 hb.lt
 refine ⟨rfl,⟨v,tog D,hb8.set 0 _,.inr ⟨P,?_,?_,ha,hp1,hp0⟩,hPu,hl⟩,⟨h8.os,h8.tape,h8.output,?_,fun k hk hkX=>?_⟩⟩
 ·refine own1_keep (own_base ho (Nat.zero_le _)) fun k cs e hk=>Below.heap_setCell _ _ _ _ ?_
  exact Blk.ty (T:=36) hk hb8 (by decide)
 ·refine (hP.keep hW).same fun k cs hk=>Below.heap_setCell _ _ _ _ ?_
  exact Blk.ty (T:=59) hk hb8 (by decide)
 ·have:=h8.size;simp [World.setCell];omega
 ·rw [Below.heap_setCell _ _ _ _ (by simpa using hkX),h8.block k hk]
set_option maxHeartbeats 4000000 in
theorem fput_ok (b:Nat) (l:List Rn) (p:Option Addr) (c:Nat) (w:World) (hb:Blk w b 184 #[.slice none 0 0]) (hl:Its w p l) (hp:0 < l.length) (hm:l.length≤1000) (ho:l.all okB=true) (hu:∀r∈l,r.u64):
  Calls Tryz.prog 59 #[.pointer (some ⟨b,0,none⟩),.slice p l.length c] w (PutNew w b l):=by
 obtain ⟨ad,rfl,_⟩:=hl.cells hp
 obtain ⟨g,off,rfl,hg,_⟩:=its_two hl hp
 have hok:∀r∈l,r.ok:=fun r hr=>(okB_iff (hu r hr)).1 (List.all_eq_true.1 ho r hr)
 have hc:=contains_any l g off c w hl hp (by omega)
 rw [ho] at hc
 have hc':Calls Tryz.prog 117 #[.slice (some ⟨g,off,none⟩) l.length c,.func (.func 118) #[] #[]] w fun e w'=>e=.returned (.bool false)∧Below w.heap.size w w':=hc
 have HC:=Lib.hid hc'
 have hset:SetAt w b [b] []:=⟨_,hb,List.mem_cons_self,(fun g h=>by cases h),.inl ⟨rfl,none,0,rfl,World.ownsRow_nil _ _ _ _⟩⟩
 have hnr:=fun W (k:Below w.heap.size w W)=>near_any b [b] [] l (some ⟨g,off,none⟩) c W (hset.keep k) (by simp) (hl.keep k) hp (by omega) hu
 have HNr:Hid (∀W,Below w.heap.size w W→Calls Tryz.prog 119 #[.pointer (some ⟨b,0,none⟩),.slice (some ⟨g,off,none⟩) l.length c] W fun e w'=>e=.returned (.tuple #[.int .i64 0,.int .i64 0])∧Below W.heap.size W w'):=Lib.hid hnr
 have hd0:((l.length:Int) == 0)=false:=beq_eq_false_iff_ne.2 (by omega)
 have HB:=Lib.hid hb
 have HI:=Lib.hid hl
 have HOk:=Lib.hid hok
 clear hb hc hc' hnr hl hok hu ho hset
 go_enter Tryz.func59,Tryz.ntmps59
 go_wp2_with fail
 refine (HC.out).mono ?_
 rintro e w1 ⟨rfl,k1⟩
 have B1:=Lib.hid k1
 clear k1
 have C2:=Lib.hid (HNr.out w1 B1.out)
 go_wp2_with fail
 refine (C2.out).mono ?_
 rintro e w2 ⟨rfl,k2⟩
 have B2:=Lib.hid (B1.out.trans (k2.mono B1.out.size))
 clear k2 C2
 have h0:=(HB.out.below B2.out HB.out.lt).cell (i:=0) (v:=.slice none 0 0) rfl
 have C3:=Lib.hid (concat_none none 0 w2)
 go_wp2_with fail
 refine (C3.out).mono ?_
 rintro e w3 ⟨u3,rfl,k1,k2,k3⟩
 have R3:=Lib.hid k1
 have B3:=Lib.hid (B2.out.trans (k2.mono B2.out.size))
 have O3:=Lib.hid (fun g e=>Nat.le_trans B2.out.size (k3 g e))
 clear k1 k2 k3 C3 h0
 have I3:=Lib.hid (HI.out.keep B3.out)
 go_wp2_with (at_builtin;(refine wpList_append_rr rfl _ _ rfl u3 [] rfl R3.out (some ⟨g,off,none⟩) l.length c l rfl rfl hp I3.out (by simp;omega) ?_);intro g4 cap4 w4 hR hgr hat;simp only [List.length_nil,Nat.zero_add,List.nil_append] at hR ⊢;have R4:=Lib.hid hR;have G4:=Lib.hid hgr;have A4:=Lib.hid hat;clear hR hgr hat)
 have B4:=Lib.hid (B3.out.grown G4.out B3.out.size (fun k e=>O3.out k e))
 have O4:Hid (w.heap.size≤g4):=Lib.hid (by
  rcases A4.out with k | k
  ·exact O3.out _ k.symm
  ·rw [k];exact B3.out.size)
 have HS:=Lib.hid (sort_any g4 cap4 l w4 R4.out (by omega))
 refine (HS.out).mono ?_
 rintro e w5 ⟨rfl,D,hperm,hrise,hrr,hfr⟩
 have R5:=Lib.hid hrr
 have B5:=Lib.hid (B4.out.trans ⟨hfr.os,hfr.tape,hfr.output,hfr.size,fun k hk=>hfr.block k (Nat.lt_of_lt_of_le hk B4.out.size) (by have:=O4.out;simp;omega)⟩)
 have hDl:D.length=l.length:=hperm.length_eq
 have HPu:=Lib.hid (puts_of (l:=[]) (p:=l) (by simpa using hperm) hrise ⟨List.Pairwise.nil,fun r h=>by cases h⟩ HOk.out)
 have HPos:Hid (0 < (tog D).length):=Lib.hid (tog_pos (by omega))
 have htl:=tog_len D
 have hDok:∀r∈D,r.ok:=fun r hr=>HOk.out r (hperm.mem_iff.1 hr)
 have B6:Hid (Below w.heap.size w w5.drew):=Lib.hid (B5.out.trans ((Drawn.drew w5).below _))
 have hcap:l.length≤cap4∧cap4≤9223372036854775807:=by
  obtain ⟨_,cur,_,k1,k2,_⟩:=hrr.inv
  exact ⟨by omega,k2⟩
 have ht:=together_any D ⟨g4,0,none⟩ cap4 w5.drew (R5.out.drew.its) (by omega) hcap.2 (by omega) hDok
 rw [hDl] at ht
 have HT:=Lib.hid ht
 clear ht hcap hDok hperm hrise hrr hfr HS R3 G4 A4 B3 B4 O3 I3
 have HTl:Hid ((tog D).length≤l.length):=Lib.hid (by omega)
 have h0:=(HB.out.below B6.out HB.out.lt).cell (i:=0) (v:=.slice none 0 0) rfl
 clear htl hDl
 go_wp2_with fail
 go_region_with (first
  | (go_at_call 125;((with_reducible refine (HT.out).mono ?_);rintro e w6 ⟨u6,rfl,k1,k2,k3⟩);obtain ⟨g6,c6,e6,_⟩:=k1.form1 HPos.out;subst e6;have R6:=Lib.hid k1;have B7:=Lib.hid (B6.out.trans (k2.mono B6.out.size));clear k1 k2 k3;have HBl:=Lib.hid (blocks_all (some ⟨g6,0,none⟩) c6 (tog D) w6 R6.out HPos.out (by have:=HTl.out;omega));have h1:=(HB.out.below B7.out HB.out.lt).cell (i:=0) (v:=.slice none 0 0) rfl)
  | (go_at_call 124;((with_reducible refine (HBl.out).mono ?_);rintro e w7 ⟨⟨v7,P,rfl,k1,k2,k3,k4,k5⟩,k6⟩;have O7:=Lib.hid k1;have P7:=Lib.hid k2;have A7:=Lib.hid k3;have B8:=Lib.hid (B7.out.trans (k6.mono B7.out.size));have HRp:=Lib.hid (replace_new v7 P.length (pvals P) _ w7 O7.out k5 k4 (pvals_one P7.out));have N7:=Lib.hid k4;have Z7:=Lib.hid k5;clear k1 k2 k3 k4 k5 k6);have h2:=(HB.out.below B8.out HB.out.lt).cell (i:=0) (v:=.slice none 0 0) rfl)
  | (go_at_call 123;((with_reducible refine (HRp.out).mono ?_);rintro e w8 ⟨⟨v8,rfl,k1⟩,k2⟩);obtain ⟨g8,c8,rfl⟩:=ins_form Z7.out (by rw [Nat.zero_add];exact k1);have R8:=Lib.hid k1;have G8:=Lib.hid k2;clear k1 k2;have K8:=Lib.hid (HB.out.below (B8.out.trans (G8.out.mono B8.out.size)) HB.out.lt);have h8:=K8.out.cell (i:=0) (v:=.slice none 0 0) rfl;have f8:=K8.out.free 0))
 all_goals
  have PE:Hid (PutNew w b l (.returned (.int .i64 0)) (w8.setCell ⟨b,0,none⟩ (.slice (some ⟨g8,0,none⟩) P.length c8))):=Lib.hid (fput_end (W:=w7) (D:=D) (P:=P) HB.out B8.out P7.out A7.out N7.out Z7.out HPu.out HTl.out R8.out G8.out B8.out.size)
  clear h8 f8 h1 h2
  go_wp2
  go_ret
  exact PE.out
theorem fset_All (b:Nat) (v:Value) (L:List Rn) (w:World) (hb:Blk w b 184 #[v]) (h:SetBlocks w v L) (hm:L.length≤1000):
  Calls Tryz.prog 127 #[.pointer (some ⟨b,0,none⟩)] w (NewRow w L):=by
 have hcon:Calls Tryz.prog 120 #[v] w (NewRow w L):=by
  rcases h with ⟨rfl,rfl⟩ | ⟨P,h1,h2,rfl,h4,h5⟩
  ·exact concat_none none 0 w
  ·exact concat_all v P 0 w h1 h2 h5 h4 hm
 have HC:=Lib.hid hcon
 have h0:=hb.cell (i:=0) rfl
 clear hb h hcon
 go_enter Tryz.func127,Tryz.ntmps127
 go_wp2_with fail
 refine (HC.out).mono ?_
 rintro e w' ⟨u,rfl,k1,k2,k3⟩
 have H1:=Lib.hid k1
 have H2:=Lib.hid k2
 have H3:=Lib.hid k3
 clear k1 k2 k3
 go_wp2
 go_ret
 exact ⟨u,rfl,H1.out,H2.out,H3.out⟩
end Go.Proofs.YteoepabmnbkabaaGreatDoor
