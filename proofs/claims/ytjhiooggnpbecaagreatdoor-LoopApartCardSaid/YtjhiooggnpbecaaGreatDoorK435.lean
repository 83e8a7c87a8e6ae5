/- Lemmas. -/
import Derived.Test.YtjhiooggnpbecaaGreatDoorK434
import Derived.Test.YtjhiooggnpbecaaGreatDoorK430
set_option linter.unusedVariables false
set_option maxHeartbeats 4000000
set_option maxRecDepth 100000
namespace Go.Proofs.YtjhiooggnpbecaaGreatDoor
open Tryz
variable {B0 DS:List Nat} {xs:List Value} {B D b g n4 off rb tO:Nat} {v:Value} {W W' w w':World}
section
open Go.RowKit Go.Shelf
attribute [local go_sem] Oper.semAt_some
def fR (w:World) (P:List (Value × List Rn)):Prop:=∀x∈P,RR w x.1 x.2∧0 < x.2.length
def eB (P:List (Value × List Rn)):List Value:=P.map (·.1)
def eS (P:List (Value × List Rn)):List Rn:=P.flatMap (·.2)
theorem fR.same {w w':World} {P:List (Value × List Rn)} (h:fR w P) (hk:∀g cs,Blk w g 190 cs→w'.heap[g]? =w.heap[g]?):fR w' P:=fun x hx=>⟨(h x hx).1.same fun g cs _ hb=>hk g cs hb,(h x hx).2⟩
theorem fR.keep {P:List (Value × List Rn)} (h:fR w P) (k:Below ↑w w w'):fR w' P:=h.same fun g cs hb=>k.block g hb.lt
theorem AF {P:List (Value × List Rn)} (h:fR w P):∀u∈eB P,u.oneCell'=true:=by
 intro u hu;obtain ⟨x,hx,rfl⟩:=List.mem_map.1 hu;rcases (h x hx).1.form with ⟨e,_⟩ | ⟨g,c,e,_⟩ <;> rw [e] <;> rfl
theorem AG (p:Option Addr) (c:Nat) (l:List Rn) (w:World) (h:Its w p l) (hp:0 < l.length) (hm:l.length≤5500):
  Calls prog 158 #[.slice p l.length c] w (jW w l):=by
 obtain ⟨ad,rfl,_⟩:=h.cells hp;have hE:Hid (RR (w.alloc (.cells #[] 190)) (.slice (some ⟨w.heap.size,0,none⟩) 0 0) []):=lh (RR.mk rfl (Blk.new _ _ _) (Nat.le_refl _) (Nat.zero_le _) rfl rfl);have hI:Hid (Its (w.alloc (.cells #[] 190)) (some ad) l):=lh (h.keep ((Below.refl _ _).alloc (Nat.le_refl _) _));clear h;have hq:∀w:World,(binOp .eql 62 (.slice (some ad) l.length c) (.slice none 0 0)).run prog w=.ok (.bool false) w:=fun w=>Lib.run_eql_slice_nil (P:=prog) w 62 190 (some ad) l.length c 0 0 underlying62;go_enter func158,ntmps158;go_wp2_with (at_builtin;(refine cO rfl _ _ rfl (.slice (some ⟨w.heap.size,0,none⟩) 0 0) [] rfl hE.out (some ad) l.length c l rfl rfl hp hI.out (by simp;omega) ?_);intro g' cap' w2 hR hgr hat)
 have HR:=lh hR;have HG:=lh hgr;have HA:=lh hat;clear hR hgr hat;go_wp2;go_ret;refine ⟨_,rfl,by simpa using HR.out,?_,fun k e=>?_⟩
 ·have b0:Below ↑w w (w.alloc (.cells #[] 190)):=(Below.refl _ _).alloc (Nat.le_refl _) _
  exact b0.grown HG.out b0.size (fun k e=>by simp [Value.ownBlock] at e;omega)
 ·simp [Value.ownBlock] at e
  subst e;rcases HA.out with k | k
  ·simp [Value.ownBlock] at k;omega
  ·rw [k];simp
def chk (l:List Rn) (k:Nat):List Rn:=(l.drop (32 * k)).take 32
def chN (n:Nat):Nat:=(n + 31) / 32
structure ChR (g off cap bs bn:Nat) (l:List Rn) (W:World):Prop where
 s:Blk W bs 62 #[.slice (some ⟨g,off,none⟩) l.length cap]
 n:Blk W bn 3 #[.int .i64 32]
theorem OY (n l0 g off cap bs bn:Nat) (l:List Rn) (hn:1≤n) (hc:l.length≤cap) (hcm:cap≤9223372036854775807) (hlen:l.length≤5500) (J Jx:List Nat→World→Prop) (W:World)
  (hJ:∀pre A B,J pre A→Below ↑A A B→J pre B) (hR:∀pre A,J pre A→ChR g off cap bs bn l A)
  (hY:∀pre x A,J pre A→pre ++ [x] <+:List.range (chN l.length)→YieldAt Fence.wide (n - 1) prog l0 #[.slice (some ⟨g,off + 32 * x * 2,none⟩) (chk l x).length (chk l x).length] A fun e B=>(e=.returned (.bool true)∧J (pre ++ [x]) B)∨(e=.returned (.bool false)∧Jx (pre ++ [x]) B))
  (h0:J [] W):
  CallsIn Fence.wide n prog 210 #[.func (.yield l0) #[] #[],↑(π bs),↑(π bn)] W fun e W'=>(∃v,e=.returned v)∧((∃xs,xs=List.range (chN l.length)∧J xs W')∨(∃pre,pre <+:List.range (chN l.length)∧Jx pre W')):=by
 have H0:=lh h0;have HJ:=lh hJ;have HR:=lh hR;have HY:=lh hY;clear h0 hJ hR hY;refine callsIn_of_wp func210 rfl trivial ?_ rfl;simp only [ntmps210,List.size_toArray,List.length_cons,List.length_nil,Nat.reduceAdd,Nat.reduceSub,Array.replicate_succ,Array.replicate_zero,List.push_toArray,List.append_toArray,List.nil_append,List.cons_append]
 gi_wp2
 gi_loopw [4] (fun iv wr=>∃k i:Nat,Hid (i=32 * k)∧k≤chN l.length∧iv=.int .i64 (i:Int)∧J (List.range k) wr) (fun i _=>l.length - (intOf i).toNat)
 case atStart=>exact ⟨0,0,lh rfl,Nat.zero_le _,rfl,H0.out⟩
 case round=>
  obtain ⟨k,i,HIk,hk,rfl,hJk⟩:=hrel;have HJk:=lh hJk;have R:=HR.out _ _ hJk;have s0:=R.s.cell (i:=0) (v:=.slice (some ⟨g,off,none⟩) l.length cap) rfl;have n0:=R.n.cell (i:=0) (v:=.int .i64 32) rfl;clear R hJk H0;by_cases hlt:i < l.length
  ·have hk1:k < chN l.length:=by have:=HIk.out;unfold chN;omega
   have hcl:Hid ((chk l k).length=min 32 (l.length - i)):=lh (by unfold chk;rw [List.length_take,List.length_drop,HIk.out]);have HPre:Hid (List.range k ++ [k] <+:List.range (chN l.length)):=lh (by
    rw [← List.range_succ];have:=iR (k + 1) (chN l.length) (by omega);rw [this];exact List.prefix_append _ _)
   have hle:i≤l.length:=by omega
   have hic:i≤cap:=by omega
   gi_wp2
   refine wpIn_wide.2 ?_;go_quiet (fail)
   have HJ2:=lh (HJ.out _ _ _ HJk.out (aB.below ⟨nq,rfl⟩ wr.heap.size));have em:min 32 ((l.length - i:Nat):Int)=((min 32 (l.length - i):Nat):Int):=by omega
   rw [em];have he1:min 32 (l.length - i)≤32:=by omega
   have he2:1≤min 32 (l.length - i):=by omega
   have he3:i + min 32 (l.length - i)≤l.length:=by omega
   have he4:i + min 32 (l.length - i)≤cap:=by omega
   clear em;generalize min 32 (l.length - i)=e at *;have s0:(wr.drewN nq).cell? ⟨bs,0,none⟩=some (.slice (some ⟨g,off,none⟩) l.length cap):=s0;have n0:(wr.drewN nq).cell? ⟨bn,0,none⟩=some (.int .i64 32):=n0;generalize wr.drewN nq=w2 at *;have HYk:=HY.out _ k w2 HJ2.out HPre.out;rw [hcl.out,← HIk.out] at HYk;obtain ⟨fn,tmps,assign,body,hy,hRd⟩:=HYk
   gi_wp2
   refine hRd.mono ?_;have ers:List.range k ++ [k]=List.range (k + 1):=(List.range_succ).symm;rw [ers];have HPre2:Hid (List.range (k + 1) <+:List.range (chN l.length)):=lh (by rw [← ers];exact HPre.out);rintro e3 W3 (⟨rfl,hJ3⟩ | ⟨rfl,hJx3⟩)
   ·have HJ3:=lh hJ3
    have n0:=(HR.out _ _ hJ3).n.cell (i:=0) (v:=.int .i64 32) rfl;clear hJ3 hy hRd HY s0 ers
    gi_wp2
    go_roundw
    case rel=>exact ⟨k + 1,i + 32,lh (by have:=HIk.out;omega),hk1,by go_num,HJ3.out⟩
    case measure=>simp [intOf];omega
   ·have HJ3:=lh hJx3
    clear hJx3 hy hRd HY s0 n0 ers
    gi_wp2
    refine bodyPost_ret (results_none rfl _ _ _) rfl ?_;exact ⟨⟨_,rfl⟩,.inr ⟨_,HPre2.out,HJ3.out⟩⟩
  ·have hk1:k=chN l.length:=by have:=HIk.out;unfold chN at *;omega
   have HJ2:=lh HJk.out;rw [hk1] at HJ2;clear hk1
   gi_wp2
   go_end0
   exact ⟨⟨_,rfl⟩,.inl ⟨_,rfl,HJ2.out⟩⟩
theorem AH (n g off cap bs bn:Nat) (l:List Rn) (hn:1≤n) (hc:l.length≤cap) (hcm:cap≤9223372036854775807) (hlen:l.length≤5500):
  OW n prog 210 #[↑(π bs),↑(π bn)] (fun k:Nat=>#[.slice (some ⟨g,off + 32 * k * 2,none⟩) (chk l k).length (chk l k).length]) (fun pre x=>pre ++ [x] <+:List.range (chN l.length)) (fun xs=>xs=List.range (chN l.length)) (fun pre=>pre <+:List.range (chN l.length)) (fun _ W=>ChR g off cap bs bn l W):=
 fun l0 J Jx W hJ _ hR hY h0=>OY n l0 g off cap bs bn l hn hc hcm hlen J Jx W hJ hR hY h0
end

section
open Go.RowKit Go.Shelf
attribute [local go_sem] Oper.semAt_some
theorem nE:(prog.info? 62).map (fun i=>(i.zero,i.size,i.bytes))=some (some (.slice none 0 0),1,24):=by kernel_rfl
structure qW (w:World) (L:List Rn) (e:Ending) (w':World):Prop where
 at_:∃v P,e=.returned v∧w'.ownsRow w.heap.size 62 1 v P.length (eB P)∧fR w' P∧eS P=L∧P.length≤5500∧0 < P.length
 bel:Below ↑w w w'
theorem vE (v:Value) (p:Option Addr) (cap:Nat) (L:List Rn) (w:World) (h:RR w (.slice p L.length cap) L) (hp:0 < L.length) (hl:L.length≤64):
  Calls prog 110 #[.slice p L.length cap] w (qW w L):=by
 have HH:=lh h;clear h;go_enter func110,ntmps110;go_wp2;go_ret;refine ⟨⟨_,[(.slice p L.length cap,L)],rfl,⟨rfl,.inr ⟨w.heap.size,1,_,rfl,Nat.le_refl _,Blk.new _ _ _,Nat.le_refl _,by unfold maxLen;omega,rfl,rfl⟩⟩,?_,by simp [eS],by simp,by simp⟩,(Below.refl _ _).alloc (Nat.le_refl _) _⟩;intro x hx;simp at hx
 subst hx;exact ⟨HH.out.keep ((Below.refl _ _).alloc (Nat.le_refl _) _),hp⟩
structure BlI (g off cap bs bn n0 nv B3:Nat) (l:List Rn) (w:World) (pre:List Nat) (W:World):Prop where
 ch:ChR g off cap bs bn l W
 its:Its W (some ⟨g,off,none⟩) l
 box:∃v P,Blk W B3 185 #[v]∧W.ownsRow nv 62 1 v pre.length (eB P)∧P.length=pre.length∧fR W P∧eS P=pre.flatMap (chk l)
 bel:Below n0 w W
theorem s8 {l:List Rn} (h:Its W (some ⟨g,off,none⟩) l) (hs:W.heap.size≤↑W') (hk:W'.heap[g]? =W.heap[g]?):Its W' (some ⟨g,off,none⟩) l:=by
 intro hp;obtain ⟨b,o,e,hb,hc⟩:=h hp;injection e with e;injection e with e1 e2
 subst e1 e2;exact ⟨_,_,rfl,Nat.lt_of_lt_of_le hb hs,fun i j hi hj=>(World.cell?_of_block (a:=⟨g,_,none⟩) hk).trans (hc i j hi hj)⟩
theorem xN (g off cap bs bn n0 nv B3 B:Nat) (l:List Rn) (w:World) (hB:n0≤B) (hn:n0≤↑w) (hg:g < B):OwnFrom B (BlI g off cap bs bn n0 nv B3 l w):=fun pre X Y row hs hgr hr=>by
 have k:=eR hgr (fun r e=>(hr r e).2);have mv:∀{x T cs},Blk X x T cs→Blk Y x T cs:=fun {x T cs} hb=>by unfold Blk;rw [k x T cs hb];exact hb
 obtain ⟨v,P,h1,h2,h3,h4,h5⟩:=hs.box;refine ⟨⟨mv hs.ch.s,mv hs.ch.n⟩,?_,⟨v,P,mv h1,gL h2 fun g cs _ _ hb=>k g _ cs hb,h3,h4.same fun g cs hb=>k g _ cs hb,h5⟩,hs.bel.grown hgr (Nat.le_trans hn hs.bel.size) (fun k e=>Nat.le_trans hB (hr k e).1)⟩;by_cases hp:0 < l.length
 ·obtain ⟨b,o,e,hb,_⟩:=hs.its hp
  injection e with e;injection e with e1 e2
  subst e1;exact s8 hs.its hgr.size (hgr.block g hb (fun e=>by have:=(hr g e.symm).1;omega))
 ·exact fun h=>absurd h hp
theorem KP {l:List Rn} {k:Nat} (h:Its W (some ⟨g,off,none⟩) l) (hk:32 * k < l.length):Its W (some ⟨g,off + 32 * k * 2,none⟩) (chk l k):=by
 intro hp;obtain ⟨b,o,e,hb,hc⟩:=h (by omega);injection e with e;injection e with e1 e2
 subst e1 e2;refine ⟨g,off + 32 * k * 2,rfl,hb,fun i j hi hj=>?_⟩;have hlen:(chk l k).length=min 32 (l.length - 32 * k):=by unfold chk;rw [List.length_take,List.length_drop]
 have k2:Itm.k Rn=2:=rfl;have:=hc (32 * k + i) j (by omega) hj;rw [k2] at this ⊢;rw [show off + 32 * k * 2 + (i * 2 + j)=off + ((32 * k + i) * 2 + j) by omega,this];have e:(chk l k).getD i Itm.z=l.getD (32 * k + i) Itm.z:=by
  unfold chk;rw [List.getD_eq_getElem?_getD,List.getD_eq_getElem?_getD,List.getElem?_take_of_lt (by omega),List.getElem?_drop]
 rw [e]
theorem KQ (l:List Rn):(List.range (chN l.length)).flatMap (chk l)=l:=by
 have key:∀k,(List.range k).flatMap (chk l)=l.take (32 * k):=by
  intro k;induction k with
  | zero=>simp
  | succ k ih=>
    rw [List.range_succ,List.flatMap_append,ih];simp only [List.flatMap_cons,List.flatMap_nil,List.append_nil];unfold chk;rw [show 32 * (k + 1)=32 * k + 32 by omega,List.take_add]
 rw [key,List.take_of_length_le (by unfold chN;omega)]
theorem nF {cap bs bn n0 nv B3:Nat} {l:List Rn} {W5 w1:World} {pre:List Nat} {x:Nat} {rv:Value} {P:List (Value × List Rn)} {o:Obj} {g' c' n:Nat} (h:BlI g off cap bs bn n0 nv B3 l w pre W) (hnw:n0≤↑w) (hB3:n0≤B3) (hgt:∃cs,Blk W g 190 cs) (hbs:bs < nv) (hnv:n0≤nv)
  (h5:Below ↑W W W5) (hr5:RR W5 rv (chk l x)) (hx:0 < (chk l x).length)
  (hb:Blk W B3 185 #[v]) (hv:W.ownsRow nv 62 1 v pre.length (eB P)) (hPl:P.length=pre.length) (hP:fR W P) (hPa:eS P=pre.flatMap (chk l)) (hn:n=pre.length + 1)
  (hown:w1.ownsRow nv 62 1 (.slice (some ⟨g',0,none⟩) n c') (pre.length + 1) (eB P ++ [rv])) (hg:(W5.alloc o).grownBy w1 v.ownBlock) (B:Nat):
  KeepsFrom B W (w1.setCell ⟨B3,0,none⟩ (.slice (some ⟨g',0,none⟩) n c'))∧BlI g off cap bs bn n0 nv B3 l w (pre ++ [x]) (w1.setCell ⟨B3,0,none⟩ (.slice (some ⟨g',0,none⟩) n c')):=by
 subst hn;have vb:∀k∈v.ownBlock.toList,nv≤k∧∃cs,Blk W k 62 cs:=fun k hk=>lG hv (qQ hk);have f1:Fr W w1 v.ownBlock.toList:=((Fr.of_below h5 v.ownBlock.toList).alloc o).trans (l':=v.ownBlock.toList) ⟨hg.os,hg.tape,hg.output,hg.size,fun k hk hl=>hg.block k hk (fun e=>hl (by rw [← e];simp))⟩ (fun y hy=>.inl hy);have f2:Fr W (w1.setCell ⟨B3,0,none⟩ (.slice (some ⟨g',0,none⟩) (pre.length + 1) c')) (B3 :: v.ownBlock.toList):=(f1.mono (fun y hy=>.inl (List.mem_cons_of_mem _ hy))).set (.inl List.mem_cons_self) 0 _;have off':∀{y T cs},Blk W y T cs→T≠185→T≠62→y ∉ (B3 :: v.ownBlock.toList):=fun {y T cs} hy t1 t2 hm=>by
  rcases List.mem_cons.1 hm with rfl | hm
  ·exact hy.ty hb t1 rfl
  ·obtain ⟨_,cs',hc⟩:=vb y hm;exact hy.ty hc t2 rfl
 have hb1:Blk w1 B3 185 #[v]:=((hb.keep h5).alloc o).grown hg (fun e=>by obtain ⟨_,cs,hc⟩:=vb B3 (by rw [← e];simp);exact hc.ty hb (by decide) rfl);obtain ⟨gcs,hgcs⟩:=hgt;refine ⟨bZ f2 (fun y hy=>?_),⟨⟨?_,?_⟩,?_,⟨_,P ++ [(rv,chk l x)],hb1.set 0 _,?_,by simp [hPl],?_,?_⟩,uA h.bel f2 (Nat.le_trans hnw h.bel.size) (fun y hy=>?_)⟩⟩
 ·rcases List.mem_cons.1 hy with rfl | hy
  ·exact .inr ⟨_,_,hb⟩
  ·obtain ⟨_,cs,hc⟩:=vb y hy;exact .inr ⟨_,cs,hc⟩
 ·exact h.ch.s.fr f2 (fun hm=>(List.mem_cons.1 hm).elim (fun e=>h.ch.s.ty hb (by decide) e) (fun hm=>by have:=(vb _ hm).1;omega))
 ·exact h.ch.n.fr f2 (off' h.ch.n (by decide) (by decide))
 ·exact s8 h.its f2.size (f2.block g hgcs.lt (off' hgcs (by decide) (by decide)))
 ·rw [List.length_append,show eB (P ++ [(rv,chk l x)])=eB P ++ [rv] by simp [eB]]
  refine gL hown fun k cs e _ hk=>Below.heap_setCell _ _ _ _ ?_;show k≠B3
  exact hk.ty hb1 (by decide)
 ·intro y hy
  rcases List.mem_append.1 hy with hy | hy
  ·obtain ⟨q1,q2⟩:=hP y hy
   exact ⟨q1.same fun k cs _ hk=>f2.block k hk.lt (off' hk (by decide) (by decide)),q2⟩
  ·simp at hy
   subst hy;refine ⟨?_,hx⟩;have r1:RR w1 rv (chk l x):=hr5.same fun k cs _ hk=>by
    have:=(hk.alloc o).grown hg (fun e=>by
     obtain ⟨_,cs',hc⟩:=vb k (by rw [← e];simp);exact hk.ty (hc.keep h5) (by decide) rfl)
    unfold Blk at this hk;rw [this,hk]
   exact r1.same fun k cs _ hk=>Below.heap_setCell _ _ _ _ (by show k≠B3;exact hk.ty hb1 (by decide))
 ·have:eS (P ++ [(rv,chk l x)])=eS P ++ chk l x:=by simp [eS]
  rw [this,hPa,List.flatMap_append];simp
 ·rcases List.mem_cons.1 hy with rfl | hy
  ·exact hB3
  ·exact Nat.le_trans hnv (vb y hy).1
theorem FY (p:Option Addr) (n c:Nat) (w:World):
  Calls prog 157 #[.slice p n c,.int .i64 32] w fun e w'=>e=.returned (.func (.func 210) #[] #[↑(π w.heap.size),↑(π (w.heap.size + 1))])∧w'=(w.alloc (.cells #[.slice p n c] 62)).alloc (.cells #[.int .i64 32] 3):=by
 go_enter func157,ntmps157;go_wp2;go_ret;exact ⟨rfl,rfl⟩
theorem s9 {T:TypeId} {n k B':Nat} (h:w.ownsRow B T k v n xs) (hB:B'≤B):w.ownsRow B' T k v n xs:=by
 refine ⟨h.1,?_⟩;rcases h.2 with c | ⟨g,cap,cur,e,hb,r⟩
 ·exact .inl c
 ·exact .inr ⟨g,cap,cur,e,Nat.le_trans hB hb,r⟩
theorem tA (p:Option Addr) (cap:Nat) (L:List Rn) (w:World) (h:RR w (.slice p L.length cap) L) (hl:64 < L.length) (hm:L.length≤5500):
  Calls prog 110 #[.slice p L.length cap] w (qW w L):=by
 obtain ⟨g,cap0,e,hg⟩:=h.form1 (by omega);injection e with e1 _ e3
 subst e1 e3;obtain ⟨_,cur,hcur,hcc,hcm,_⟩:=h.inv;have hcm':cap≤9223372036854775807:=by unfold maxLen at hcm;omega
 obtain ⟨i0,hi,hz0,hz1,hz2⟩:=info_parts nE;have HI:=lh hi;have HZ0:=lh hz0;have HZ1:=lh hz1;have HZ2:=lh hz2;have HIt:=lh h.its;have HCu:=lh hcur;have d64:decide ((L.length:Int)≤64)=false:=decide_eq_false (by omega);have HSeq:=lh (fun bs bn=>AH 5 g 0 cap bs bn L (by omega) hcc hcm' hm);have HC:=lh (FY (some ⟨g,0,none⟩) L.length cap (w.alloc (.cells #[.slice none 0 0] 185)));have hL1:chN L.length≤5500:=by unfold chN;omega
 have hL0:0 < chN L.length:=by unfold chN;omega
 have HL1:=lh hL1;have HL0:=lh hL0;have hgl:=hg;clear hi hz0 hz1 hz2 h hcur hcm hcc hcm' hL1 hL0;refine (callsIn_wide (n:=6)).1 ?_;refine callsIn_of_wp_marks func110 rfl trivial ?_ rfl;simp only [ntmps110,List.size_toArray,List.length_cons,List.length_nil,Nat.reduceAdd,Nat.reduceSub,Array.replicate_succ,Array.replicate_zero,List.push_toArray,List.append_toArray,List.nil_append,List.cons_append]
 gi_wp2_with fail
 refine ⟨trivial,?_⟩;refine (callsIn_wide.2 HC.out).mono ?_;rintro e w2 ⟨rfl,rfl⟩;have s1:(w.alloc (.cells #[.slice none 0 0] 185)).heap.size=w.heap.size + 1:=by simp
 rw [s1];have hB2:Below ↑w w (((w.alloc (.cells #[.slice none 0 0] 185)).alloc (.cells #[.slice (some ⟨g,0,none⟩) L.length cap] 62)).alloc (.cells #[.int .i64 32] 3)):=(((Below.refl _ _).alloc (Nat.le_refl _) _).alloc (by simp) _).alloc (by simp;omega) _;have s2:(((w.alloc (.cells #[.slice none 0 0] 185)).alloc (.cells #[.slice (some ⟨g,0,none⟩) L.length cap] 62)).alloc (.cells #[.int .i64 32] 3)).heap.size=w.heap.size + 3:=by simp
 have hI0:BlI g 0 cap (w.heap.size + 1) (w.heap.size + 1 + 1) w.heap.size (w.heap.size + 3) w.heap.size L w [] (((w.alloc (.cells #[.slice none 0 0] 185)).alloc (.cells #[.slice (some ⟨g,0,none⟩) L.length cap] 62)).alloc (.cells #[.int .i64 32] 3)):=by
  refine ⟨⟨?_,?_⟩,HIt.out.keep hB2,⟨_,[],((Blk.new _ _ _).alloc _).alloc _,World.ownsRow_nil _ _ _ _,rfl,(fun x hx=>by cases hx),rfl⟩,hB2⟩
  ·have:=(Blk.new (w.alloc (.cells #[.slice none 0 0] 185)) 62 #[.slice (some ⟨g,0,none⟩) L.length cap]).alloc (.cells #[.int .i64 32] 3)
   rw [s1] at this;exact this
  ·have:=Blk.new ((w.alloc (.cells #[.slice none 0 0] 185)).alloc (.cells #[.slice (some ⟨g,0,none⟩) L.length cap] 62)) 3 #[.int .i64 32]
   simpa using this
 have HCu2:=lh (HCu.out.keep hB2);have HI0:=lh hI0;have HS2:=lh s2;have HB2:=lh hB2;clear hI0 s1 s2 hB2 HC;generalize (((w.alloc (.cells #[.slice none 0 0] 185)).alloc (.cells #[.slice (some ⟨g,0,none⟩) L.length cap] 62)).alloc (.cells #[.int .i64 32] 3))=w3 at *;generalize hn0:w.heap.size=n0 at *;have HN0:=lh hn0;clear hn0
 gi_wp2_with fail
 refine fB.1 (gf:=210) (lb:=#[↑(π (n0 + 1)),↑(π (n0 + 1 + 1))]) rfl (enters_of func210 (by kernel_rfl) rfl) (HSeq.out (n0 + 1) (n0 + 1 + 1)) (fun _=>rfl)
  (BlI g 0 cap (n0 + 1) (n0 + 1 + 1) n0 (n0 + 3) n0 L w) (fun _ _ _=>False) (xN _ _ _ _ _ _ _ _ _ _ _ (by rw [HS2.out];omega) (by rw [HN0.out];exact Nat.le_refl _) (by rw [HS2.out];omega)) (fun _=>ownFrom_pure _ _) (fun pre A h=>h.ch) HI0.out
  (fun x=>{tmps:=#[.slice (some ⟨g,0,none⟩) L.length cap,undef,.slice none 0 0,↑(π n0),.slice (some ⟨g,32 * x * 2,none⟩) (chk L x).length (chk L x).length,.slice (some ⟨g,0,none⟩) L.length cap,.int .i64 (L.length:Int),.bool false,undef,undef,.slice (some ⟨g,0,none⟩) L.length cap,.func (.func 210) #[] #[↑(π (n0 + 1)),↑(π (n0 + 1 + 1))],.slice (some ⟨g,32 * x * 2,none⟩) (chk L x).length (chk L x).length,undef,undef,undef,undef,undef,undef],defers:=[]})
  ?assign ?body ?done (fun D c pre W _ _ _ h _=>h.elim)
 case assign=>
  intro l x W K hK
  gi_wp2
  exact hK
 case body=>
  rintro l pre x W hI hok;obtain ⟨v,P,hb,hv,hPl,hP,hPa⟩:=hI.box;have hx32:32 * x < L.length:=by
   have:=hok.mem (List.mem_append_right _ List.mem_cons_self);have:=List.mem_range.1 this;unfold chN at this;omega
  have hcl:(chk L x).length=min 32 (L.length - 32 * x):=by unfold chk;rw [List.length_take,List.length_drop]
  have hpl:pre.length + 1≤5500:=by
   have h1:=hok.length_le;rw [List.length_append,List.length_range] at h1;have:=HL1.out;have h3:[x].length=1:=rfl;omega
  have HCl:Hid (Calls prog 158 #[.slice (some ⟨g,32 * x * 2,none⟩) (chk L x).length (chk L x).length] W.drew (jW W.drew (chk L x))):=lh (by
   have h1:=(KP hI.its hx32).keep ((aB.drew W).below _);rw [Nat.zero_add] at h1;exact AG _ _ _ _ h1 (by omega) (by omega))
  have hgt:∃cs,Blk W g 190 cs:=⟨cur,HCu.out.below (by have:=hI.bel;rw [← HN0.out] at this;exact this) (by rw [HN0.out];omega)⟩;obtain ⟨p0,c0,rfl⟩:∃p c,v=.slice p pre.length c:=by
   rcases hv.2 with ⟨e,k⟩ | ⟨g,cap,cur,e,_⟩
   ·exact ⟨none,0,by rw [e,k]⟩
   ·exact ⟨_,cap,e⟩
  have HGt:=lh hgt;have HIx:=lh hI;have Hb:=lh hb;have HV:=lh hv;have HPl:=lh hPl;have HP:=lh hP;have HPa:=lh hPa;have HX0:Hid (0 < (chk L x).length):=lh (by omega);have e0:W.drew.cell? ⟨n0,0,none⟩=some (.slice p0 pre.length c0):=hb.drew.cell (i:=0) rfl;have HNa:Hid (some n0≠(Value.slice p0 pre.length c0).ownBlock):=lh (fun e=>by obtain ⟨_,cs,hc⟩:=lG hv e.symm;exact hc.ty hb (by decide) rfl);clear hI hb hv hPl hP hPa hok hgt hx32 hcl HI0 HSeq
  gi_wp2
  refine bV (S:=fun _=>True) (by rintro ⟨_,_,h⟩;exact h) (by kernel_rfl) (by kernel_rfl) trivial (fun hHeld=>?_);simp only [List.size_toArray,List.length_cons,List.length_nil,Nat.reduceAdd,Array.replicate_succ,Array.replicate_zero,List.push_toArray,List.nil_append,List.cons_append];refine tkc 1 ?_;refine rdy [0,2] ?_;refine cns (fun K hK=>?_) ?_
  ·go_simp
   refine bck hK hHeld (fun hHeld=>?_);clear hK;refine rdy [2] ?_;refine cns (fun K hK=>?_) .nil;go_simp;refine (HCl.out).mono ?_;rintro e W5 ⟨rv,rfl,k1,k2,k3⟩;obtain ⟨g2,c2,rfl,_⟩:=k1.form1 HX0.out;have HB5:=lh (((aB.drew W).below W.heap.size).trans (k2.mono (Nat.le_refl _)));have HR5:=lh k1;clear k1 k2 k3;have e5:W5.cell? ⟨n0,0,none⟩=some (.slice p0 pre.length c0):=(Hb.out.keep HB5.out).cell (i:=0) rfl;have e6:(W5.alloc (.cells #[(.slice (some ⟨g2,0,none⟩) (chk L x).length c2)] 62)).cell? ⟨n0,0,none⟩=some (.slice p0 pre.length c0):=aQ e5 _;have HE6:=lh e6;have HFa:Hid ((W5.alloc (.cells #[(.slice (some ⟨g2,0,none⟩) (chk L x).length c2)] 62)).frozen? ⟨n0,0,none⟩=false):=lh (((Hb.out.keep HB5.out).alloc _).free 0);have HOw:Hid ((W5.alloc (.cells #[(.slice (some ⟨g2,0,none⟩) (chk L x).length c2)] 62)).drew.ownsRow (n0 + 3) 62 1 (.slice p0 pre.length c0) pre.length (eB P)):=lh (gL HV.out fun k cs _ _ hk=>(Below.heap_alloc _ _ _ (Nat.lt_of_lt_of_le hk.lt HB5.out.size)).trans (HB5.out.block k hk.lt));have HNw:Hid (Blk (W5.alloc (.cells #[(.slice (some ⟨g2,0,none⟩) (chk L x).length c2)] 62)).drew W5.heap.size 62 #[(.slice (some ⟨g2,0,none⟩) (chk L x).length c2)]):=lh (Blk.new _ _ _).drew;have HBs:Hid (n0 + 3≤↑W5):=lh (by have h1:=HIx.out.ch.n.lt;have h2:=HB5.out.size;have h3:=HIx.out.ch.s.lt;omega);dsimp only
   refine bck hK hHeld (fun hHeld=>?_);clear hK;refine rdy [3] ?_;refine cns (fun K hK=>?_) .nil;go_simp;refine bck hK hHeld (fun hHeld=>?_);clear hK;refine rdy [4] ?_;refine cns (fun K hK=>?_) .nil;((refine step_append_lies _ (by rfl) _ _ _ (by rfl) (n0 + 3) 62 i0 (.slice none 0 0) 1 24 underlying185 HI.out HZ0.out HZ1.out HZ2.out rfl (by decide) _ pre.length (eB P) (by rfl) HOw.out ⟨W5.heap.size,0,none⟩ 1 1 [(.slice (some ⟨g2,0,none⟩) (chk L x).length c2)] (by rfl) (by rfl) (World.news_of_block HNw.out) (by simp [Value.oneCell']) (by decide) (by unfold maxLen;omega) (by omega) (Nat.le_trans HBs.out (by simp)) (W5.heap.size + 1) (by simp) ?_);intro g5 cap5 w7 hown hgrow hat hltg)
   have HOn:=lh hown;have HGr:=lh hgrow;clear hown hgrow hat;have u1:=(HGr.out.cell_far ⟨n0,0,none⟩ (World.block_lt_of_cell? _ _ HE6.out) HNa.out).trans HE6.out;have u2:=(HGr.out.frozen_far ⟨n0,0,none⟩ (World.block_lt_of_cell? _ _ HE6.out) HNa.out).trans HFa.out;refine bck hK hHeld (fun hHeld=>?_);clear hK;refine rdy [5] ?_;refine cns (fun K hK=>?_) .nil;go_simp;refine bck hK hHeld (fun hHeld=>?_);clear hK;refine wpAnyH_done (by kernel_rfl) ?_ _;exact nF HIx.out (by rw [HN0.out];exact Nat.le_refl _) (Nat.le_refl _) HGt.out (by omega) (by omega) HB5.out HR5.out HX0.out Hb.out HV.out HPl.out HP.out HPa.out rfl HOn.out HGr.out _
  refine cns (fun K hK=>?_) .nil;go_simp;refine (HCl.out).mono ?_;rintro e W5 ⟨rv,rfl,k1,k2,k3⟩;obtain ⟨g2,c2,rfl,_⟩:=k1.form1 HX0.out;have HB5:=lh (((aB.drew W).below W.heap.size).trans (k2.mono (Nat.le_refl _)));have HR5:=lh k1;clear k1 k2 k3;have e5:W5.cell? ⟨n0,0,none⟩=some (.slice p0 pre.length c0):=(Hb.out.keep HB5.out).cell (i:=0) rfl;have e6:(W5.alloc (.cells #[(.slice (some ⟨g2,0,none⟩) (chk L x).length c2)] 62)).cell? ⟨n0,0,none⟩=some (.slice p0 pre.length c0):=aQ e5 _;have HE6:=lh e6;have HFa:Hid ((W5.alloc (.cells #[(.slice (some ⟨g2,0,none⟩) (chk L x).length c2)] 62)).frozen? ⟨n0,0,none⟩=false):=lh (((Hb.out.keep HB5.out).alloc _).free 0);have HOw:Hid ((W5.alloc (.cells #[(.slice (some ⟨g2,0,none⟩) (chk L x).length c2)] 62)).drew.ownsRow (n0 + 3) 62 1 (.slice p0 pre.length c0) pre.length (eB P)):=lh (gL HV.out fun k cs _ _ hk=>(Below.heap_alloc _ _ _ (Nat.lt_of_lt_of_le hk.lt HB5.out.size)).trans (HB5.out.block k hk.lt));have HNw:Hid (Blk (W5.alloc (.cells #[(.slice (some ⟨g2,0,none⟩) (chk L x).length c2)] 62)).drew W5.heap.size 62 #[(.slice (some ⟨g2,0,none⟩) (chk L x).length c2)]):=lh (Blk.new _ _ _).drew;have HBs:Hid (n0 + 3≤↑W5):=lh (by have h1:=HIx.out.ch.n.lt;have h2:=HB5.out.size;have h3:=HIx.out.ch.s.lt;omega);dsimp only
  refine bck hK hHeld (fun hHeld=>?_);clear hK;refine rdy [0,3] ?_;refine cns (fun K hK=>?_) ?_
  ·go_simp
   refine bck hK hHeld (fun hHeld=>?_);clear hK;refine rdy [3] ?_;refine cns (fun K hK=>?_) .nil;go_simp;refine bck hK hHeld (fun hHeld=>?_);clear hK;refine rdy [4] ?_;refine cns (fun K hK=>?_) .nil;((refine step_append_lies _ (by rfl) _ _ _ (by rfl) (n0 + 3) 62 i0 (.slice none 0 0) 1 24 underlying185 HI.out HZ0.out HZ1.out HZ2.out rfl (by decide) _ pre.length (eB P) (by rfl) HOw.out ⟨W5.heap.size,0,none⟩ 1 1 [(.slice (some ⟨g2,0,none⟩) (chk L x).length c2)] (by rfl) (by rfl) (World.news_of_block HNw.out) (by simp [Value.oneCell']) (by decide) (by unfold maxLen;omega) (by omega) (Nat.le_trans HBs.out (by simp)) (W5.heap.size + 1) (by simp) ?_);intro g5 cap5 w7 hown hgrow hat hltg)
   have HOn:=lh hown;have HGr:=lh hgrow;clear hown hgrow hat;have u1:=(HGr.out.cell_far ⟨n0,0,none⟩ (World.block_lt_of_cell? _ _ HE6.out) HNa.out).trans HE6.out;have u2:=(HGr.out.frozen_far ⟨n0,0,none⟩ (World.block_lt_of_cell? _ _ HE6.out) HNa.out).trans HFa.out;refine bck hK hHeld (fun hHeld=>?_);clear hK;refine rdy [5] ?_;refine cns (fun K hK=>?_) .nil;go_simp;refine bck hK hHeld (fun hHeld=>?_);clear hK;refine wpAnyH_done (by kernel_rfl) ?_ _;exact nF HIx.out (by rw [HN0.out];exact Nat.le_refl _) (Nat.le_refl _) HGt.out (by omega) (by omega) HB5.out HR5.out HX0.out Hb.out HV.out HPl.out HP.out HPa.out rfl HOn.out HGr.out _
  refine cns (fun K hK=>?_) .nil;go_simp;refine bck hK hHeld (fun hHeld=>?_);clear hK;refine rdy [0] ?_;refine cns (fun K hK=>?_) .nil;go_simp;refine bck hK hHeld (fun hHeld=>?_);clear hK;refine rdy [4] ?_;refine cns (fun K hK=>?_) .nil;((refine step_append_lies _ (by rfl) _ _ _ (by rfl) (n0 + 3) 62 i0 (.slice none 0 0) 1 24 underlying185 HI.out HZ0.out HZ1.out HZ2.out rfl (by decide) _ pre.length (eB P) (by rfl) HOw.out ⟨W5.heap.size,0,none⟩ 1 1 [(.slice (some ⟨g2,0,none⟩) (chk L x).length c2)] (by rfl) (by rfl) (World.news_of_block HNw.out) (by simp [Value.oneCell']) (by decide) (by unfold maxLen;omega) (by omega) (Nat.le_trans HBs.out (by simp)) (W5.heap.size + 1) (by simp) ?_);intro g5 cap5 w7 hown hgrow hat hltg)
  have HOn:=lh hown;have HGr:=lh hgrow;clear hown hgrow hat;have u1:=(HGr.out.cell_far ⟨n0,0,none⟩ (World.block_lt_of_cell? _ _ HE6.out) HNa.out).trans HE6.out;have u2:=(HGr.out.frozen_far ⟨n0,0,none⟩ (World.block_lt_of_cell? _ _ HE6.out) HNa.out).trans HFa.out;refine bck hK hHeld (fun hHeld=>?_);clear hK;refine rdy [5] ?_;refine cns (fun K hK=>?_) .nil;go_simp;refine bck hK hHeld (fun hHeld=>?_);clear hK;refine wpAnyH_done (by kernel_rfl) ?_ _;exact nF HIx.out (by rw [HN0.out];exact Nat.le_refl _) (Nat.le_refl _) HGt.out (by omega) (by omega) HB5.out HR5.out HX0.out Hb.out HV.out HPl.out HP.out HPa.out rfl HOn.out HGr.out _
 case done=>
  rintro D xs W hD hDl rfl hI hK;have hP:=(xN g 0 cap (n0 + 1) (n0 + 1 + 1) n0 (n0 + 3) n0 w3.heap.size L w (by rw [HS2.out];omega) (by rw [HN0.out];exact Nat.le_refl _) (by rw [HS2.out];omega)).putObj (.deferred none) hI hD hK rfl;obtain ⟨v,P,hb,hv,hPl,hPp,hPa⟩:=hI.box;have c0:=hb.cell (i:=0) rfl;have hv2:=ownsRow_putObj hv (.deferred none) hK rfl;have hk:=eR (grownBy_putObj' W D (.deferred none)) (fun r e=>by cases e;exact ⟨_,hK,rfl⟩);have HP2:=lh (hPp.same fun g cs hb=>hk g _ cs hb);have HV2:=lh hv2;have HP:=lh hP.bel;have HK:=lh hK;have HPl:=lh hPl;have HPa:=lh hPa;clear hI hb hv hv2 hP hD hDl hK HI0 HSeq hPl hPp hPa hk
  gi_wp2
  refine ⟨by simp,.inl ⟨_,_,rfl,run_takeDeferred HK.out,?_⟩⟩;have hlr:P.length=chN L.length:=by rw [HPl.out,List.length_range]
  refine ⟨v,?_,⟨v,P,rfl,by rw [HN0.out,HPl.out];exact s9 HV2.out (by omega),HP2.out,by rw [HPa.out];exact KQ L,by rw [hlr];exact HL1.out,by rw [hlr];exact HL0.out⟩,by rw [HN0.out];exact HP.out⟩;simp [results,Tryz.f110]
theorem vF (p:Option Addr) (cap:Nat) (L:List Rn) (w:World) (h:RR w (.slice p L.length cap) L) (hp:0 < L.length) (hm:L.length≤5500):
  Calls prog 110 #[.slice p L.length cap] w (qW w L):=by
 by_cases c:L.length≤64
 ·exact vE (.slice p L.length cap) p cap L w h hp c
 ·exact tA p cap L w h (by omega) hm
end

section
open Go.RowKit
structure xO (w:World) (n:Nat) (vals:List Value) (e:Ending) (w':World):Prop where
 at_:∃v,e=.returned v∧w'.ownsRow w.heap.size 62 1 v n vals
 bel:Below ↑w w w'
theorem tB {n:Nat} (hp:0 < n) (h:w.ownsRow B 62 1 v (0 + n) xs):∃g c,v=.slice (some ⟨g,0,none⟩) n c:=by
 rcases h.2 with ⟨_,e⟩ | ⟨g',cap',cur,e,_⟩
 ·omega
 ·exact ⟨g',cap',by rw [e,Nat.zero_add]⟩
theorem vG (v:Value) (n:Nat) (vals:List Value) (B:Nat) (w:World) (h:w.ownsRow B 62 1 v n vals) (hp:0 < n) (hn:n≤5500) (h1:∀u∈vals,u.oneCell'=true):
  Calls prog 153 #[.slice none 0 0,.int .i64 0,v] w (xO w n vals):=by
 obtain ⟨g,cap,rfl⟩:∃g cap,v=.slice (some ⟨g,0,none⟩) n cap:=by
  rcases h.2 with ⟨_,e⟩ | ⟨g,cap,cur,e,_⟩
  ·omega
  ·exact ⟨g,cap,e⟩
 obtain ⟨i0,hi,hz0,hz1,hz2⟩:=info_parts nE;have HO:Hid (w.ownsRow w.heap.size 62 1 (.slice none 0 0) 0 []):=lh (World.ownsRow_nil _ _ _ _);have HC:Hid (∀j u,vals[j]? =some u→w.cell? ((⟨g,0,none⟩:Addr).add j)=some u):=lh (fun j u hu=>h.cells (g:=g) rfl j u hu);have HL:Hid (vals.length=n * 1):=lh h.1;have H1:=lh h1;have d0:((n:Int) == 0)=false:=beq_eq_false_iff_ne.2 (by omega);clear h h1;go_enter func153,ntmps153;go_wp2_with (at_builtin;(refine wpList_append_own_at _ rfl _ _ 185 rfl w.heap.size 62 i0 (.slice none 0 0) 1 24 underlying185 hi hz0 hz1 hz2 rfl (by decide) (.slice none 0 0) 0 [] rfl HO.out ⟨g,0,none⟩ n cap vals rfl HL.out HC.out H1.out (by unfold maxLen;omega) (by omega) (Nat.le_refl _) ?_);intro v' w2 hown hgr hnil hat;obtain ⟨g',c',rfl⟩:=tB hp hown;have K1:=lh hown;have K2:=lh hgr;clear hown hgr hnil hat)
 go_ret;exact ⟨⟨_,rfl,by simpa using K1.out⟩,(Below.refl w.heap.size w).grown K2.out (Nat.le_refl _) (fun k e=>by cases e)⟩
theorem tC (v:Value) (n:Nat) (vals:List Value) (B:Nat) (w:World) (h:w.ownsRow B 62 1 v n vals) (hp:0 < n) (hn:n≤5500) (h1:∀u∈vals,u.oneCell'=true):
  Calls prog 109 #[.slice none 0 0,.int .i64 0,.int .i64 0,v] w (xO w n vals):=by
 have HI:=lh (vG v n vals B w h hp hn h1);clear h h1;go_enter func109,ntmps109;go_wp2_with fail;refine (HI.out).mono ?_;rintro e w' ⟨⟨u,rfl,k1⟩,k2⟩;have H1:=lh k1;have H2:=lh k2;clear k1 k2;go_wp2;go_ret;exact ⟨⟨_,rfl,H1.out⟩,H2.out⟩
theorem AI {P:List (Value × List Rn)} {k:Nat} (h:k < P.length):eS (P.take (k + 1))=eS (P.take k) ++ (P.getD k (.slice none 0 0,[])).2:=by
 rw [List.take_succ_eq_append_getElem h];have e:P.getD k (.slice none 0 0,[])=P[k]:=by rw [List.getD_eq_getElem?_getD,List.getElem?_eq_getElem h];rfl
 rw [e];unfold eS;rw [List.flatMap_append];simp only [List.flatMap_cons,List.flatMap_nil,List.append_nil]
theorem qX (P:List (Value × List Rn)) (k:Nat):(eS (P.take k)).length≤(eS P).length:=by
 have:eS P=eS (P.take k) ++ eS (P.drop k):=by unfold eS;rw [← List.flatMap_append,List.take_append_drop]
 rw [this];simp
theorem fR.at_ {P:List (Value × List Rn)} (h:fR w P) {k:Nat} (hk:k < P.length):∃p c,(P.getD k (.slice none 0 0,[])).1=.slice p (P.getD k (.slice none 0 0,[])).2.length c∧RR w (.slice p (P.getD k (.slice none 0 0,[])).2.length c) (P.getD k (.slice none 0 0,[])).2∧0 < (P.getD k (.slice none 0 0,[])).2.length∧(eB P)[k]? =some (.slice p (P.getD k (.slice none 0 0,[])).2.length c):=by
 have e:P.getD k (.slice none 0 0,[])=P[k]:=by rw [List.getD_eq_getElem?_getD,List.getElem?_eq_getElem hk];rfl
 obtain ⟨h1,h2⟩:=h P[k] (List.getElem_mem hk);rw [e];obtain ⟨g,c,e1,_⟩:=h1.form1 h2;refine ⟨_,_,e1,by rw [← e1];exact h1,h2,?_⟩;simp [eB,hk,e1]
theorem vH (v:Value) (P:List (Value × List Rn)) (B:Nat) (w:World) (h:w.ownsRow B 62 1 v P.length (eB P)) (hP:fR w P) (hp:0 < P.length) (hm:P.length≤5500) (hl:(eS P).length≤5500):
  Calls prog 106 #[v] w (jW w (eS P)):=by
 obtain ⟨g,cap,rfl⟩:∃g cap,v=.slice (some ⟨g,0,none⟩) P.length cap:=by
  rcases h.2 with ⟨_,e⟩ | ⟨g,cap,cur,e,_⟩
  ·omega
  ·exact ⟨g,cap,e⟩
 have HC:Hid (∀j u,(eB P)[j]? =some u→w.cell? ⟨g,j,none⟩=some u):=lh (fun j u hu=>by
  have:=h.cells (g:=g) rfl j u hu;rwa [Go.WideShapes.add_plain,Nat.zero_add] at this)
 have hgl:g < w.heap.size:=(h.lt g rfl).2;have HP:=lh hP;have HG:=lh (sX (eS P).length w hl);have HLe:=lh (qX P);have HTk:=lh (fun k (hk:k < P.length)=>AI hk);clear h hP;go_enter func106,ntmps106;go_wp2;go_loop [3,11] (fun s i=>∃k t:Nat,Hid (t=(eS (P.take k)).length)∧k≤P.length∧s=.int .i64 (t:Int)∧i=.int .i64 (k:Int)) (fun _ i=>P.length - (intOf i).toNat)
 case atStart=>exact ⟨0,0,lh rfl,Nat.zero_le _,rfl,rfl⟩
 case round=>
  obtain ⟨k,t,HT,hk,rfl,rfl⟩:=hrel;have ht:t≤5500:=by have:=HLe.out k;have:=HT.out;omega
  by_cases hlt:k < P.length
  ·obtain ⟨p,c,e1,hr,h0,hv⟩:=HP.out.at_ hlt
   have hc:=HC.out k _ hv;have hT2:Hid (t + (P.getD k (.slice none 0 0,[])).2.length=(eS (P.take (k + 1))).length):=lh (by rw [HTk.out k hlt,List.length_append,HT.out]);have ht2:t + (P.getD k (.slice none 0 0,[])).2.length≤5500:=by have:=HLe.out (k + 1);have:=hT2.out;omega
   clear e1 hr h0 hv;generalize (P.getD k (.slice none 0 0,[])).2.length=m at *;go_wp2;go_round
   case rel=>exact ⟨k + 1,t + m,hT2,by omega,by go_num,by go_num⟩
   case measure=>simp [intOf];omega
  ·obtain rfl:k=P.length:=by omega
   have hT3:Hid (t=(eS P).length):=lh (by rw [HT.out,List.take_length]);have HG2:Hid (Calls prog 149 #[.slice none 0 0,.int .i64 (t:Int)] w fun e w'=>∃v,e=.returned v∧RR w' v []∧Below ↑w w w'∧∀g,v.ownBlock=some g→↑w≤g):=lh (by rw [hT3.out];exact HG.out);clear HG HT hT3;go_wp2_with fail;refine (HG2.out).mono ?_;rintro e w' ⟨v,rfl,h1,h2,h3⟩;have H1:=lh h1;have H2:=lh h2;have H3:=lh h3;clear h1 h2 h3 HG2;go_wp2;go_loopw [6,27] (fun s i wr=>∃k:Nat,k≤P.length∧i=.int .i64 (k:Int)∧RR wr s (eS (P.take k))∧Below ↑w w wr∧∀g,s.ownBlock=some g→↑w≤g) (fun _ i _=>P.length - (intOf i).toNat)
   case atStart=>exact ⟨0,Nat.zero_le _,rfl,H1.out,H2.out,H3.out⟩
   case round=>
    obtain ⟨k,hk,rfl,h1,h2,h3⟩:=hrel;clear H1 H2 H3;have H1:=lh h1;have H2:=lh h2;have H3:=lh h3;clear h1 h2 h3;by_cases hlt:k < P.length
    ·obtain ⟨p,c,e1,hr,h0,hv⟩:=HP.out.at_ hlt
     have hc:=(H2.out.cell (p:=⟨g,k,none⟩) hgl).trans (HC.out k _ hv);have HI:=lh ((hr.its).keep H2.out);have HB:Hid ((eS (P.take k)).length + (P.getD k (.slice none 0 0,[])).2.length≤1000000):=lh (by have:=HLe.out (k + 1);rw [HTk.out k hlt,List.length_append] at this;omega);have HE:=lh (HTk.out k hlt);clear e1 hr hv;generalize (P.getD k (.slice none 0 0,[])).2=r at *;go_wp2_with (at_builtin;(refine cO rfl _ _ rfl _ (eS (P.take k)) rfl H1.out p r.length c r rfl rfl h0 HI.out HB.out ?_);intro g' cap' w2 hR hgr hat)
     have HR:=lh hR;have HGr:=lh hgr;have HA:=lh hat;clear hR hgr hat;go_wp2;go_roundw
     case rel=>
      refine ⟨k + 1,by omega,by go_num,by rw [HE.out];exact HR.out,H2.out.grown HGr.out H2.out.size (fun k e=>H3.out k e),?_⟩;intro g e;simp [Value.ownBlock] at e
      subst e;rcases HA.out with k | k
      ·exact H3.out _ k.symm
      ·rw [k];exact H2.out.size
     case measure=>simp [intOf];omega
    ·obtain rfl:k=P.length:=by omega
     rw [List.take_length] at H1;go_wp2;go_ret;exact ⟨_,rfl,H1.out,H2.out,H3.out⟩

theorem tD (w:World):Calls prog 61 #[] w fun e w'=>e=.returned ↑(π w.heap.size)∧Blk w' w.heap.size 187 #[.slice none 0 0]∧Below ↑w w w':=by
 go_enter func61,ntmps61;go_wp2;go_ret;exact ⟨rfl,Blk.new _ _ _,(Below.refl _ _).alloc (Nat.le_refl _) _⟩
def pC (w:World) (v:Value) (L:List Rn):Prop:=
 (v=.slice none 0 0∧L=[])∨∃P,w.ownsRow 0 62 1 v P.length (eB P)∧fR w P∧eS P=L∧P.length≤5500∧0 < P.length
structure qY (w:World) (b:Nat) (l:List Rn) (e:Ending) (w':World):Prop where
 ret:e=.returned (.int .i64 0)
 set:∃v L,Blk w' b 187 #[v]∧pC w' v L∧BP [] l L∧L.length≤l.length
 fr:Fr w w' [b]
theorem qZ (p:Option Addr) (cap:Nat) (w:World):
  Calls prog 103 #[.slice p 0 cap,.func (.func 104) #[] #[]] w fun e w'=>e=.returned (.bool false)∧Below ↑w w w':=by
 have HI:Hid (Calls prog 147 #[.slice p 0 cap,.func (.func 104) #[] #[]] w fun e w'=>e=.returned (.int .i64 (-1))∧Below ↑w w w'):=lh (by
  go_enter func147,ntmps147;go_wp2;go_loop [8] (fun i=>i=.int .i64 0) (fun _=>0)
  case atStart=>exact rfl
  case round=>
   obtain rfl:=hrel;go_wp2;go_ret;exact ⟨rfl,Below.refl _ _⟩)
 go_enter func103,ntmps103;go_wp2_with fail;refine (HI.out).mono ?_;rintro e w' ⟨rfl,hw⟩;have HW:=lh hw;clear hw;go_wp2;go_ret;exact ⟨rfl,HW.out⟩
theorem vI (b:Nat) (l:List Rn) (p:Option Addr) (c:Nat) (w:World) (hl:Its w p l) (hp:0 < l.length) (hk:l.length≤5500) (ho:l.all okB=false):
  Calls prog 62 #[↑(π b),.slice p l.length c] w fun e w'=>e=.returned (.int .i64 1)∧Below ↑w w w':=by
 obtain ⟨ad,rfl,_⟩:=hl.cells hp;obtain ⟨g,off,rfl,hg,_⟩:=fU hl hp;have hc:=kH l g off c w hl hp hk;rw [ho] at hc;have HC:=lh hc;clear hc hl;go_enter func62,ntmps62;go_wp2_with fail;refine (HC.out).mono ?_;rintro e w' ⟨rfl,hw⟩;have HW:=lh hw;clear hw;go_wp2;go_ret;exact ⟨rfl,HW.out⟩
theorem FZ (b:Nat) (p:Option Addr) (c:Nat) (w:World):
  Calls prog 62 #[↑(π b),.slice p 0 c] w fun e w'=>e=.returned (.int .i64 0)∧Below ↑w w w':=by
 have HC:=lh (qZ p c w);go_enter func62,ntmps62;go_wp2_with fail;refine (HC.out).mono ?_;rintro e w' ⟨rfl,hw⟩;have HW:=lh hw;clear hw;go_wp2;go_ret;exact ⟨rfl,HW.out⟩
theorem F9 {w8:World} {l D:List Rn} {P:List (Value × List Rn)} {B8:Nat} (hb:Blk w b 187 #[.slice none 0 0]) (hB:Below ↑w w W)
  (hP:fR W P) (ha:eS P=tog D) (hp1:P.length≤5500) (hp0:0 < P.length) (hPu:BP [] l (tog D)) (hl:(tog D).length≤l.length)
  (ho:w8.ownsRow B8 62 1 v P.length (eB P)) (hW:Below ↑W W w8) (hB8:↑w≤B8):
  qY w b l (.returned (.int .i64 0)) (w8.setCell ⟨b,0,none⟩ v):=by
 have h8:=hB.trans (hW.mono hB.size);have hb8:=hb.below h8 hb.lt;refine ⟨rfl,⟨v,tog D,hb8.set 0 _,.inr ⟨P,?_,?_,ha,hp1,hp0⟩,hPu,hl⟩,⟨h8.os,h8.tape,h8.output,?_,fun k hk hkX=>?_⟩⟩
 ·refine jF (s9 ho (Nat.zero_le _)) fun k cs e hk=>Below.heap_setCell _ _ _ _ ?_
  exact Blk.ty (T:=62) hk hb8 (by decide)
 ·refine (hP.keep hW).same fun k cs hk=>Below.heap_setCell _ _ _ _ ?_
  exact Blk.ty (T:=190) hk hb8 (by decide)
 ·have:=h8.size;simp [World.setCell];omega
 ·rw [Below.heap_setCell _ _ _ _ (by simpa using hkX),h8.block k hk]
theorem KS (b:Nat) (l:List Rn) (p:Option Addr) (c:Nat) (w:World) (hb:Blk w b 187 #[.slice none 0 0]) (hl:Its w p l) (hp:0 < l.length) (hm:l.length≤5500) (ho:l.all okB=true) (hu:∀r∈l,r.u64):
  Calls prog 62 #[↑(π b),.slice p l.length c] w (qY w b l):=by
 obtain ⟨ad,rfl,_⟩:=hl.cells hp;obtain ⟨g,off,rfl,hg,_⟩:=fU hl hp;have hok:∀r∈l,r.ok:=fun r hr=>(IF (hu r hr)).1 (List.all_eq_true.1 ho r hr);have hc:=kH l g off c w hl hp (by omega);rw [ho] at hc;have hc':Calls prog 103 #[.slice (some ⟨g,off,none⟩) l.length c,.func (.func 104) #[] #[]] w fun e w'=>e=.returned (.bool false)∧Below ↑w w w':=hc;have HC:=lh hc';have hset:eJ w b [b] []:=⟨_,hb,List.mem_cons_self,(fun g h=>by cases h),.inl ⟨rfl,none,0,rfl,World.ownsRow_nil _ _ _ _⟩⟩;have hnr:=fun W (k:Below ↑w w W)=>FP b [b] [] l (some ⟨g,off,none⟩) c W (hset.keep k) (by simp) (hl.keep k) hp (by omega) hu;have HNr:Hid (∀W,Below ↑w w W→Calls prog 105 #[↑(π b),.slice (some ⟨g,off,none⟩) l.length c] W fun e w'=>e=.returned (.tuple #[.int .i64 0,.int .i64 0])∧Below ↑W W w'):=lh hnr;have hd0:((l.length:Int) == 0)=false:=beq_eq_false_iff_ne.2 (by omega);have HB:=lh hb;have HI:=lh hl;have HOk:=lh hok;clear hb hc hc' hnr hl hok hu ho hset;go_enter func62,ntmps62;go_wp2_with fail;refine (HC.out).mono ?_;rintro e w1 ⟨rfl,k1⟩;have B1:=lh k1;clear k1;have C2:=lh (HNr.out w1 B1.out);go_wp2_with fail;refine (C2.out).mono ?_;rintro e w2 ⟨rfl,k2⟩;have B2:=lh (B1.out.trans (k2.mono B1.out.size));clear k2 C2;have h0:=(HB.out.below B2.out HB.out.lt).cell (i:=0) (v:=.slice none 0 0) rfl;have C3:=lh (lV none 0 w2);go_wp2_with fail;refine (C3.out).mono ?_;rintro e w3 ⟨u3,rfl,k1,k2,k3⟩;have R3:=lh k1;have B3:=lh (B2.out.trans (k2.mono B2.out.size));have O3:=lh (fun g e=>Nat.le_trans B2.out.size (k3 g e));clear k1 k2 k3 C3 h0;have I3:=lh (HI.out.keep B3.out);go_wp2_with (at_builtin;(refine cO rfl _ _ rfl u3 [] rfl R3.out (some ⟨g,off,none⟩) l.length c l rfl rfl hp I3.out (by simp;omega) ?_);intro g4 cap4 w4 hR hgr hat;simp only [List.length_nil,Nat.zero_add,List.nil_append] at hR ⊢;have R4:=lh hR;have G4:=lh hgr;have A4:=lh hat;clear hR hgr hat)
 have B4:=lh (B3.out.grown G4.out B3.out.size (fun k e=>O3.out k e));have O4:Hid (↑w≤g4):=lh (by
  rcases A4.out with k | k
  ·exact O3.out _ k.symm
  ·rw [k];exact B3.out.size)
 have HS:=lh (FQ g4 cap4 l w4 R4.out (by omega));refine (HS.out).mono ?_;rintro e w5 ⟨rfl,D,hperm,hrise,hrr,hfr⟩;have R5:=lh hrr;have B5:=lh (B4.out.trans ⟨hfr.os,hfr.tape,hfr.output,hfr.size,fun k hk=>hfr.block k (Nat.lt_of_lt_of_le hk B4.out.size) (by have:=O4.out;simp;omega)⟩);have hDl:D.length=l.length:=hperm.length_eq;have HPu:=lh (IH (l:=[]) (p:=l) (by simpa using hperm) hrise ⟨List.Pairwise.nil,fun r h=>by cases h⟩ HOk.out);have HPos:Hid (0 < (tog D).length):=lh (IG (by omega));have htl:=wC D;have hDok:∀r∈D,r.ok:=fun r hr=>HOk.out r (hperm.mem_iff.1 hr);have B6:Hid (Below ↑w w w5.drew):=lh (B5.out.trans ((aB.drew w5).below _));have hcap:l.length≤cap4∧cap4≤9223372036854775807:=by
  obtain ⟨_,cur,_,k1,k2,_⟩:=hrr.inv;exact ⟨by omega,k2⟩
 have ht:=qV D ⟨g4,0,none⟩ cap4 w5.drew (R5.out.drew.its) (by omega) hcap.2 (by omega) hDok;rw [hDl] at ht;have HT:=lh ht;clear ht hcap hDok hperm hrise hrr hfr HS R3 G4 A4 B3 B4 O3 I3;have HTl:Hid ((tog D).length≤l.length):=lh (by omega);have h0:=(HB.out.below B6.out HB.out.lt).cell (i:=0) (v:=.slice none 0 0) rfl;clear htl hDl;go_wp2_with fail;go_region_with (first
  | (go_at_call 111;((with_reducible refine (HT.out).mono ?_);rintro e w6 ⟨u6,rfl,k1,k2,k3⟩);obtain ⟨g6,c6,e6,_⟩:=k1.form1 HPos.out;subst e6;have R6:=lh k1;have B7:=lh (B6.out.trans (k2.mono B6.out.size));clear k1 k2 k3;have HBl:=lh (vF (some ⟨g6,0,none⟩) c6 (tog D) w6 R6.out HPos.out (by have:=HTl.out;omega));have h1:=(HB.out.below B7.out HB.out.lt).cell (i:=0) (v:=.slice none 0 0) rfl)
  | (go_at_call 110;((with_reducible refine (HBl.out).mono ?_);rintro e w7 ⟨⟨v7,P,rfl,k1,k2,k3,k4,k5⟩,k6⟩;have O7:=lh k1;have P7:=lh k2;have A7:=lh k3;have B8:=lh (B7.out.trans (k6.mono B7.out.size));have HRp:=lh (tC v7 P.length (eB P) _ w7 O7.out k5 k4 (AF P7.out));have N7:=lh k4;have Z7:=lh k5;clear k1 k2 k3 k4 k5 k6);have h2:=(HB.out.below B8.out HB.out.lt).cell (i:=0) (v:=.slice none 0 0) rfl)
  | (go_at_call 109;((with_reducible refine (HRp.out).mono ?_);rintro e w8 ⟨⟨v8,rfl,k1⟩,k2⟩);obtain ⟨g8,c8,rfl⟩:=tB Z7.out (by rw [Nat.zero_add];exact k1);have R8:=lh k1;have G8:=lh k2;clear k1 k2;have K8:=lh (HB.out.below (B8.out.trans (G8.out.mono B8.out.size)) HB.out.lt);have h8:=K8.out.cell (i:=0) (v:=.slice none 0 0) rfl;have f8:=K8.out.free 0))
 all_goals
  have PE:Hid (qY w b l (.returned (.int .i64 0)) (w8.setCell ⟨b,0,none⟩ (.slice (some ⟨g8,0,none⟩) P.length c8))):=lh (F9 (W:=w7) (D:=D) (P:=P) HB.out B8.out P7.out A7.out N7.out Z7.out HPu.out HTl.out R8.out G8.out B8.out.size);clear h8 f8 h1 h2;go_wp2;go_ret;exact PE.out
theorem GA (b:Nat) (v:Value) (L:List Rn) (w:World) (hb:Blk w b 187 #[v]) (h:pC w v L) (hm:L.length≤5500):
  Calls prog 113 #[↑(π b)] w (jW w L):=by
 have hcon:Calls prog 106 #[v] w (jW w L):=by
  rcases h with ⟨rfl,rfl⟩ | ⟨P,h1,h2,rfl,h4,h5⟩
  ·exact lV none 0 w
  ·exact vH v P 0 w h1 h2 h5 h4 hm
 have HC:=lh hcon;have h0:=hb.cell (i:=0) rfl;clear hb h hcon;go_enter func113,ntmps113;go_wp2_with fail;refine (HC.out).mono ?_;rintro e w' ⟨u,rfl,k1,k2,k3⟩;have H1:=lh k1;have H2:=lh k2;have H3:=lh k3;clear k1 k2 k3;go_wp2;go_ret;exact ⟨u,rfl,H1.out,H2.out,H3.out⟩
end

section
open Go.RowKit Go.Shelf
theorem vJ {l:List Kp} (hr:l.Pairwise fun x y=>x.p.n < y.p.n) (f g:Kp→Bool) (h:∀x y,f x=true→g y=true→x.p.n < y.p.n):l.filter (fun k=>f k || g k)=l.filter f ++ l.filter g:=by
 induction l with
 | nil=>rfl
 | cons x t ih=>
   have hp:=List.pairwise_cons.1 hr;rw [List.filter_cons,List.filter_cons,List.filter_cons,ih hp.2];cases hf:f x
   ·cases hg:g x
    ·simp
    ·have e:t.filter f=[]:=by
      rw [List.filter_eq_nil_iff];intro y hy hfy;have h1:=h y x hfy hg;have h2:=hp.1 y hy;omega
     simp [e]
   ·cases hg:g x
    ·simp
    ·have:=h x x hf hg
     omega
def iY (Q:List Rn) (p:Pk):Bool:=Q.any fun r=>decide (r.a≤p.n) && decide (p.n≤r.b)
def AK (s:LS) (Q:List Rn):List Kp:=(aW s.ks).filter fun k=>iY Q k.p
def LS.ack (s:LS) (A:List Kp):LS:={s.take (A.map Kp.b) with top:=A.foldl (fun t k=>max t k.p.n) s.top,topped:=s.topped || !A.isEmpty}
theorem LS.ack_nil (s:LS):s.ack []=s:=by
 have:s.take []=s:=LS.take_nil s;unfold LS.ack;simp [this]
theorem LS.ack_ks (s:LS) (A:List Kp):(s.ack A).ks=cU (A.map Kp.b) s.ks:=rfl
theorem LS.ack_snoc (s:LS) (A:List Kp) (x:Kp):({(s.ack A).take [x.b] with top:=max (s.ack A).top x.p.n,topped:=true}:LS)=s.ack (A ++ [x]):=by
 unfold LS.ack LS.take;simp [List.map_append,gO,List.foldl_append]
theorem KU {A:List Kp}:∀{t m:Nat},t≤m→(∀k∈A,k.p.n≤m)→A.foldl (fun t k=>max t k.p.n) t≤m:=by
 induction A with
 | nil=>intro t m h _;exact h
 | cons x r ih=>
   intro t m h hA;exact ih (Nat.max_le.2 ⟨h,hA x List.mem_cons_self⟩) fun k hk=>hA k (List.mem_cons_of_mem _ hk)
theorem LS.ack_ok {s:LS} (h:s.ok) {A:List Kp} (hA:∀k∈A,k∈s.ks):(s.ack A).ok:=by
 have k:=LS.take_ok h (A.map Kp.b);refine ⟨k.nodup,k.rise,k.lt,k.pk,k.mono,k.next,k.reorder,KU h.top fun x hx=>(h.pk x (hA x hx)).n,fun ht=>?_⟩;have h1:(s.topped || !A.isEmpty)=false:=ht;rw [Bool.or_eq_false_iff] at h1;cases A with
 | nil=>exact h.un h1.1
 | cons x r=>simp at h1
theorem rA (s:LS) (Q:List Rn):∀k∈AK s Q,k∈s.ks:=fun k hk=>(eY s.ks).mem (List.mem_filter.1 hk).1
theorem OZ {l:List Kp} (hn:(l.map Kp.b).Nodup) {x y:Kp} (hx:x∈l) (hy:y∈l) (e:x.b=y.b):x=y:=by
 obtain ⟨i,hi,rfl⟩:=List.mem_iff_getElem.1 hx;obtain ⟨j,hj,rfl⟩:=List.mem_iff_getElem.1 hy;have key:∀{p q:Nat} (hp:p < l.length) (hq:q < l.length),p < q→l[p].b≠l[q].b:=fun {p q} hp hq hpq=>by
  have:=List.pairwise_iff_getElem.1 hn p q (by rw [List.length_map];exact hp) (by rw [List.length_map];exact hq) hpq;rwa [List.getElem_map,List.getElem_map] at this
 rcases Nat.lt_trichotomy i j with d | d | d
 ·exact absurd e (key hi hj d)
 ·subst d;rfl
 ·exact absurd e.symm (key hj hi d)
theorem KV {s:LS} (hs:s.ok) {Q:List Rn} (hQ:jJ Q) {k:Nat} (hk:k < Q.length):
  AK s (Q.take (k + 1))=AK s (Q.take k) ++ yK (s.ack (AK s (Q.take k))).ks (Q.getD k Itm.z).a (Q.getD k Itm.z).b:=by
 have er:Q.getD k Itm.z=Q[k]:=by rw [List.getD_eq_getElem?_getD,List.getElem?_eq_getElem hk];rfl
 have hap:∀r∈Q.take k,r.b + 1 < (Q.getD k Itm.z).a:=by
  intro r hr;rw [er];obtain ⟨i,hi,rfl⟩:=List.mem_iff_getElem.1 hr;rw [List.length_take] at hi;rw [List.getElem_take];exact List.pairwise_iff_getElem.1 hQ.apart i k (by omega) hk (by omega)
 have e2:Q.take (k + 1)=Q.take k ++ [Q.getD k Itm.z]:=by rw [List.take_succ_eq_append_getElem hk,er]
 generalize hr0:Q.getD k Itm.z=r at *;have hy:yK (s.ack (AK s (Q.take k))).ks r.a r.b=(aW s.ks).filter (fun x=>decide (r.a≤x.p.n) && decide (x.p.n≤r.b)):=by
  have e3:yK (s.ack (AK s (Q.take k))).ks r.a r.b=(aW (s.ack (AK s (Q.take k))).ks).filter (fun x=>decide (r.a≤x.p.n) && decide (x.p.n≤r.b)):=by
   unfold yK aW;rw [List.filter_filter];rfl
  rw [e3,LS.ack_ks,kP,List.filter_filter];apply List.filter_congr
  intro x hx;by_cases c:(decide (r.a≤x.p.n) && decide (x.p.n≤r.b))=true
  ·rw [c,Bool.true_and,decide_eq_true_eq]
   intro hm;obtain ⟨y,hy,e⟩:=List.mem_map.1 hm;obtain ⟨hy1,hy2⟩:=List.mem_filter.1 hy;obtain rfl:=OZ (jL hs) hy1 hx e;unfold iY at hy2;obtain ⟨r',hr',h'⟩:=List.any_eq_true.1 hy2;have:=hap r' hr';simp at c h'
   omega
  ·have c':(decide (r.a≤x.p.n) && decide (x.p.n≤r.b))=false:=by simpa using c
   rw [c',Bool.false_and]
 rw [hy,e2];have e4:AK s (Q.take k ++ [r])=(aW s.ks).filter (fun x=>iY (Q.take k) x.p || (decide (r.a≤x.p.n) && decide (x.p.n≤r.b))):=by
  unfold AK;apply List.filter_congr
  intro x _;unfold iY;rw [List.any_append];simp
 rw [e4,vJ (hs.rise.sublist (eY s.ks))]
 ·rfl
 ·intro x y hx hy
  unfold iY at hx;obtain ⟨r',hr',h'⟩:=List.any_eq_true.1 hx;have:=hap r' hr';simp at h' hy
  omega
theorem AJ {bl br fr:Nat} {s':LS} {ks:List Kp} {T:List Nat} {pre:List Kp} (h:LAt W b rb g s') (e0:s'.ks=cU T ks) (hT:∀t∈T,t∈pre.map Kp.b) (hl:Blk W bl 97 #[↑(π b)]) (hr:Blk W br 190 #[↑fr,↑tO]):RdR ks b rb g bl br fr tO pre W:=by
 have e:aP s'.ks=aP ks:=by
  rw [e0];have:=congrArg (List.map (· + 1)) (i9 T ks);rw [List.map_map,List.map_map] at this;exact this
 refine ⟨hl,hr,⟨⟨_,h.head,rfl⟩,by rw [← e];exact h.row,fun k hk=>?_⟩,fun k hk hp=>?_⟩
 ·have hk':=h.kept _ (by rw [e0];exact gD (B:=T) hk)
  exact ⟨_,hk'⟩
 have:=h.kept _ (by rw [e0];exact gD (B:=T) hk);have hn:k.b ∉ T:=fun hm=>hp (hT _ hm);simp only [hn,decide_false,Bool.or_false] at this;exact this
def topW (W:World) (b t:Nat):World:=(W.setCell ⟨b,7,none⟩ ↑t).setCell ⟨b,8,none⟩ (.bool true)
theorem fS {t k:Nat} (h:k≠b):(topW W b t).heap[k]? =W.heap[k]?:=by
 unfold topW;rw [Below.heap_setCell _ _ _ _ h,Below.heap_setCell _ _ _ _ h]
theorem LAt.topW {W:World} {b rb g:Nat} {s:LS} (h:LAt W b rb g s) (t:Nat):LAt (topW W b t) b rb g {s with top:=t,topped:=true}:=by
 obtain ⟨c1,hr1⟩:=h.row.head;obtain ⟨c2,hr2⟩:=h.row.body;refine ⟨(h.head.set 7 _).set 8 _,h.row.blk2 fun x T cs hx hb=>fS ?_,fun k hk=>?_⟩
 ·rcases hx with rfl | rfl
  ·exact hr1.ty h.head (by decide)
  ·exact hr2.ty h.head (by decide)
 ·have:=h.kept k hk
  unfold Blk;rw [fS (this.ty h.head (by decide))];exact this
theorem TkS.topW {w:World} {b rb g n4:Nat} {B0:List Nat} {s:LS} {l:List Pk} {Bx:World→Prop} {W:World} (h:TkS w b rb g n4 B0 s l Bx W) (hB:nY Bx) (hb:b∈B0) (t:Nat):
  TkS w b rb g n4 B0 {s with top:=t,topped:=true} l Bx (topW W b t)∧∀B,KeepsFrom B W (topW W b t):=by
 obtain ⟨v,h1,h2,h3⟩:=h.out;have hd:=h.led.head;refine ⟨⟨h.led.topW t,hB W _ h.box fun x T cs hx hT=>fS (hx.ty hd hT.1),⟨v,?_,h2.same fun k cs _ hk=>fS (hk.ty hd (by decide)),h3⟩,(h.fr.set (c:=b) (.inl hb) 7 _).set (c:=b) (.inl hb) 8 _⟩,fun B=>bZ (L:=[b]) (((Fr.refl W [b]).set (c:=b) (.inl (by simp)) 7 _).set (c:=b) (.inl (by simp)) 8 _) (fun y hy=>by simp at hy;subst hy;exact .inr ⟨_,_,hd⟩)⟩;unfold Blk;rw [fS (h1.ty hd (by decide))];exact h1
structure tE (b n0 n5 n6 n8 n9:Nat) (v:Value) (Q:List Rn) (W:World):Prop where
 q0:Blk W n0 97 #[↑(π b)]
 q5:Blk W n5 97 #[↑(π b)]
 q6:Blk W n6 202 #[↑(π n8)]
 q9:Blk W n9 200 #[.func (.func 159) #[] #[↑(π n5),↑(π n6)]]
 rr:RR W v Q
theorem tE.k (b n0 n5 n6 n8 n9:Nat) (v:Value) (Q:List Rn):nY (tE b n0 n5 n6 n8 n9 v Q):=fun W W' h k=>by
 have mv:∀{x T cs},Blk W x T cs→gC T→Blk W' x T cs:=fun {x T cs} hb hT=>by unfold Blk;rw [k x T cs hb hT];exact hb
 exact ⟨mv h.q0 (by unfold gC;decide),mv h.q5 (by unfold gC;decide),mv h.q6 (by unfold gC;decide),mv h.q9 (by unfold gC;decide),h.rr.same fun g cs _ hb=>k g _ cs hb (by unfold gC;decide)⟩
structure vK (b n0 n5 n6 n8 n9:Nat) (v:Value) (Q:List Rn) (bl br fr tO:Nat) (W:World):Prop where
 bx:tE b n0 n5 n6 n8 n9 v Q W
 ql:Blk W bl 97 #[↑(π b)]
 qr:Blk W br 190 #[↑fr,↑tO]
theorem vK.k (b n0 n5 n6 n8 n9:Nat) (v:Value) (Q:List Rn) (bl br fr tO:Nat):nY (vK b n0 n5 n6 n8 n9 v Q bl br fr tO):=fun W W' h k=>by
 have mv:∀{x T cs},Blk W x T cs→gC T→Blk W' x T cs:=fun {x T cs} hb hT=>by unfold Blk;rw [k x T cs hb hT];exact hb
 exact ⟨tE.k _ _ _ _ _ _ _ _ W W' h.bx k,mv h.ql (by unfold gC;decide),mv h.qr (by unfold gC;decide)⟩
theorem TkS.unbox {s:LS} {l:List Pk} {Bx By:World→Prop} (h:TkS w b rb g n4 B0 s l Bx W) (k:By W):TkS w b rb g n4 B0 s l By W:=⟨h.led,k,h.out,h.fr⟩
structure dO (B:Nat) (DS:List Nat) (W:World):Prop where
 nodup:DS.Nodup
 at_:∀D∈DS,B≤D∧W.heap[D]? =some (.deferred (some []))
theorem dO.nil (B:Nat) (W:World):dO B [] W:=⟨List.nodup_nil,fun D h=>by cases h⟩
theorem dO.lt (h:dO B DS W):∀D∈DS,D < W.heap.size:=fun D hD=>(Array.getElem?_eq_some_iff.1 (h.at_ D hD).2).1
theorem dO.keep (h:dO B DS W) (k:KeepsFrom B W W'):dO B DS W':=⟨h.nodup,fun D hD=>⟨(h.at_ D hD).1,k.same _ _ (h.at_ D hD).1 (h.at_ D hD).2 rfl⟩⟩
theorem dO.below (h:dO B DS W) (k:Below ↑W W W'):dO B DS W':=⟨h.nodup,fun D hD=>⟨(h.at_ D hD).1,(k.block D (h.lt D hD)).trans (h.at_ D hD).2⟩⟩
theorem dO.cons (h:dO B DS W) (h1:D ∉ DS) (h2:B≤D) (h3:W.heap[D]? =some (.deferred (some []))):dO B (D :: DS) W:=⟨List.nodup_cons.2 ⟨h1,h.nodup⟩,fun E hE=>by
 rcases List.mem_cons.1 hE with rfl | hE
 ·exact ⟨h2,h3⟩
 ·exact h.at_ E hE⟩
theorem rB {F:Fence} {n:Nat} {fn:Func} {tmps:Array Value} {R:Ending→World→Prop} (Q:World→Prop) (hQ:∀W D,Q W→B≤D→W.heap[D]? =some (.deferred (some []))→Q (W.putObj D (.deferred none))) (hR:∀W,Q W→LeavesIn F n prog fn tmps R [] .returning W):
  ∀DS W,dO B DS W→Q W→LeavesInM F n prog fn tmps R (DS.map mk1) .returning W:=by
 intro DS;induction DS with
 | nil=>intro W _ h;exact hR W h
 | cons D DS ih=>
   intro W hm h;obtain ⟨h1,h2⟩:=hm.at_ D List.mem_cons_self;have hn:=List.nodup_cons.1 hm.nodup;refine ⟨by simp,.inl ⟨_,_,rfl,run_takeDeferred h2,ih _ ⟨hn.2,fun E hE=>?_⟩ (hQ W D h h1 h2)⟩⟩;obtain ⟨k1,k2⟩:=hm.at_ E (List.mem_cons_of_mem _ hE);exact ⟨k1,(World.putObj_heap_other (fun (e:E=D)=>hn.1 (e▸hE))).trans k2⟩

attribute [local go_sem] Oper.semAt_some
theorem tF (b:Nat) (l:List Rn) (p:Option Addr) (c:Nat) (w:World) (hb:Blk w b 187 #[.slice none 0 0]) (hl:Its w p l) (hm:l.length≤5500) (ho:l.all okB=true) (hu:∀r∈l,r.u64):
  Calls prog 62 #[↑(π b),.slice p l.length c] w (qY w b l):=by
 by_cases hp:0 < l.length
 ·exact KS b l p c w hb hl hp hm ho hu
 ·obtain rfl:l=[]:=List.eq_nil_of_length_eq_zero (by omega)
  refine (FZ b p c w).mono ?_;rintro e w' ⟨rfl,k⟩;exact ⟨rfl,⟨_,[],hb.below k hb.lt,.inl ⟨rfl,rfl⟩,⟨⟨List.Pairwise.nil,fun r h=>by cases h⟩,fun n=>by simp [wA],by simp⟩,by simp⟩,Fr.of_below k _⟩
structure jG (w:World) (b rb g:Nat) (s:LS) (Q:List Rn) (e:Ending) (w':World):Prop where
 e:∃v,e=.returned (.tuple #[v,.int .i64 0])∧PR w' v ((cT s.ks).filter (iY Q))∧∀k,v.ownBlock=some k→↑w≤k
 led:lK w b rb g s (fun s'=>cT s'.ks=(cT s.ks).filter (fun p=>!iY Q p)∧s'.reorder=s.reorder∧s'.next=s.next∧s'.top=((cT s.ks).filter (iY Q)).foldl (fun t p=>max t p.n) s.top∧s'.topped=(s.topped || !((cT s.ks).filter (iY Q)).isEmpty)) w'
theorem jG.mark {s:LS} {Q:List Rn} {e:Ending} (h:jG w b rb g s Q e W) (hD:↑w≤D) (hK:W.heap[D]? =some (.deferred (some []))):jG w b rb g s Q e (W.putObj D (.deferred none)):=by
 have hg:=grownBy_putObj' W D (.deferred none);have hk:=eR hg (fun r e=>by cases e;exact ⟨_,hK,rfl⟩);obtain ⟨v,h1,h2,h3⟩:=h.e;obtain ⟨⟨rb',g',s',k1,k2,k3,k4⟩,k5⟩:=h.led;exact ⟨⟨v,h1,h2.same (fun k cs _ hb=>hk k _ cs hb),h3⟩,⟨⟨rb',g',s',k1.keepX (fun x T cs _ hb=>hk x T cs hb),k2,k3,k4⟩,nD k5 hg (fun r e=>by cases e;exact hD) (Nat.le_refl _)⟩⟩
theorem RR.form0 {l:List Rn} (h:RR w v l):∃p c,v=.slice p l.length c:=by
 rcases h.form with ⟨e,k⟩ | ⟨g,cap,e,_⟩
 ·exact ⟨none,0,by rw [e,k];rfl⟩
 ·exact ⟨_,cap,e⟩
theorem AL {α:Type} {B0:Nat} (h:∀D∈DS,D < B):OwnFrom B (fun (_:List α) W=>dO B0 DS W):=fun pre X Y row hm hg hr=>⟨hm.nodup,fun D hD=>⟨(hm.at_ D hD).1,(hg.block D (hm.lt D hD) (fun e=>by have:=(hr D e.symm).1;have:=h D hD;omega)).trans (hm.at_ D hD).2⟩⟩
theorem AM {W8 W9:World} {n8:Nat} {s:LS} {A:List Kp} {x:Kp} {Bx:World→Prop} (hB:nY Bx) (hb:b∈B0) (h:TkS w b rb g n8 B0 ((s.ack A).take [x.b]) (A.map Kp.p ++ [x.p]) Bx W9) (hk:∀B,KeepsFrom B W8 W9) (hm:dO w.heap.size DS W8) (B:Nat):
  KeepsFrom B W8 ((W9.drew.setCell ⟨b,7,none⟩ (.int .u64 (max ((s.ack A).top:Int) (x.p.n:Int)))).setCell ⟨b,8,none⟩ (.bool true))∧
   TkS w b rb g n8 B0 (s.ack (A ++ [x])) ((A ++ [x]).map Kp.p) Bx ((W9.drew.setCell ⟨b,7,none⟩ (.int .u64 (max ((s.ack A).top:Int) (x.p.n:Int)))).setCell ⟨b,8,none⟩ (.bool true))∧
   dO w.heap.size DS ((W9.drew.setCell ⟨b,7,none⟩ (.int .u64 (max ((s.ack A).top:Int) (x.p.n:Int)))).setCell ⟨b,8,none⟩ (.bool true)):=by
 have hd:=(aB.drew W9).below W9.heap.size;obtain ⟨h1,h2⟩:=(h.below hB hd).topW hB hb (max (s.ack A).top x.p.n);rw [LS.ack_snoc] at h1;unfold topW at h1 h2;have em:((max (s.ack A).top x.p.n:Nat):Int)=max ((s.ack A).top:Int) (x.p.n:Int):=by omega
 rw [em] at h1 h2;have kk:∀B,KeepsFrom B W8 ((W9.drew.setCell ⟨b,7,none⟩ (.int .u64 (max ((s.ack A).top:Int) (x.p.n:Int)))).setCell ⟨b,8,none⟩ (.bool true)):=fun B=>(hk B).trans ((bZ (Fr.of_below hd []) (fun y hy=>by cases hy)).trans (h2 B));refine ⟨kk B,?_,hm.keep (kk _)⟩;rw [List.map_append];exact h1
theorem LS.ack_ks2 (s:LS) (A pre:List Kp):(s.ack (A ++ pre)).ks=cU (pre.map Kp.b) (s.ack A).ks:=by rw [LS.ack_ks,LS.ack_ks,List.map_append,gO]
theorem KW (s:LS) (Q:List Rn):AK s (Q.take 0)=[]:=by
 unfold AK iY;simp
theorem rC {s:LS} {Q:List Rn}:(AK s Q).map Kp.p=(cT s.ks).filter (iY Q):=iX s (iY Q)
theorem KX {A:List Kp}:∀t:Nat,A.foldl (fun t k=>max t k.p.n) t=(A.map Kp.p).foldl (fun t p=>max t p.n) t:=by
 induction A with
 | nil=>intro t;rfl
 | cons x r ih=>intro t;exact ih _
theorem KY {W2:World} {s:LS} {Bx:World→Prop} {Q:List Rn} (hs:s.ok)
  (h:TkS w b rb g n4 (aE b rb g s) (s.ack (AK s Q)) ((AK s Q).map Kp.p) Bx W) (hv2:PR W v ((AK s Q).map Kp.p)) (hv3:∀k,v.ownBlock=some k→↑w≤k)
  (hn:kF W b rb g (s.ack (AK s Q)) (.returned (.tuple #[])) W2):jG w b rb g s Q (.returned (.tuple #[v,.int .i64 0])) W2:=by
 obtain ⟨rb',g',ks',n1,n2,n3,n4'⟩:=hn.led;have eb:aE b rb g (s.ack (AK s Q))=aE b rb g s:=by unfold aE;rw [LS.ack_ks,i9]
 rw [eb] at n4';have hok:=LS.sub_ok (LS.ack_ok hs (rA s Q)) n2;have hfr:Fr w W2 (aE b rb g s):=h.fr.trans hn.fr (fun x hx=>.inl (by rw [eb] at hx;exact hx));have e1:cT ks'=(cT s.ks).filter (fun p=>!iY Q p):=by
  unfold cT;rw [n3];exact lL hs (iY Q)
 have v2:PR W2 v ((AK s Q).map Kp.p):=hv2.fr hn.fr (fun k e=>by
  obtain ⟨cs,hc⟩:=hv2.blk e;exact h.led.off hc (by decide) (by decide) (by decide) (by decide))
 have hsz:=h.fr.size;rw [rC] at v2;refine ⟨⟨v,rfl,v2,hv3⟩,⟨⟨rb',g',(s.ack (AK s Q)).with_ ks',n1,hok,⟨e1,rfl,rfl,?_,?_⟩,fun x hx=>?_⟩,hfr⟩⟩
 ·show (AK s Q).foldl (fun t k=>max t k.p.n) s.top=_
  rw [KX,rC]
 ·show (s.topped || !(AK s Q).isEmpty)=_
  rw [← rC,List.isEmpty_map]
 rcases n4' x hx with c | c
 ·exact .inl c
 ·right;omega
theorem AN {s:LS} {Q:List Rn} {k fr:Nat} {pre:List Kp} {x:Kp} (h:pre ++ [x] <+:yK (s.ack (AK s (Q.take k))).ks fr tO) (hs:s.ok):∀y∈AK s (Q.take k) ++ (pre ++ [x]),y∈s.ks:=by
 intro y hy;rcases List.mem_append.1 hy with hy | hy
 ·exact rA s _ y hy
 ·have hm:=List.mem_filter.1 (h.mem hy)
  obtain ⟨z,hz,e1,e2,e3⟩:=jA hm.1;have hg:y.gone=false:=by have:=hm.2;simp [inK] at this;exact this.2
  rw [hg] at e3;have hzg:z.gone=false:=by
   cases hc:z.gone
   ·rfl
   ·rw [hc] at e3;simp at e3
  have:z=y:=by cases z;cases y;simp_all
  exact this▸hz
theorem KZ (b rb g:Nat) (p:Option Addr) (c:Nat) (l:List Rn) (s:LS) (w:World) (h:LAt w b rb g s) (hs:s.ok) (hl:Its w p l) (hm:l.length≤5500) (ho:l.all okB=true) (hu:∀r∈l,r.u64):
  Calls prog 64 #[↑(π b),.slice p l.length c] w fun e w'=>∃Q,BP [] l Q∧jG w b rb g s Q e w':=by
 have HH:=lh h;have HS:=lh hs;have HI:=lh hl;have HN:Hid (∀W,Calls prog 61 #[] W fun e w'=>e=.returned ↑(π W.heap.size)∧Blk w' W.heap.size 187 #[.slice none 0 0]∧Below ↑W W w'):=lh tD;have HPt:=lh (fun bb W (k1:Blk W bb 187 #[.slice none 0 0]) (k2:Its W p l)=>tF bb l p c W k1 k2 hm ho hu);have HM:=lh hm;clear h hs hl ho hu hm;generalize hll:l.length=ll at *;have HLL:=lh hll;clear hll;refine (callsIn_wide (n:=6)).1 ?_;refine callsIn_of_wp_marks func64 rfl trivial ?_ rfl;simp only [ntmps64,List.size_toArray,List.length_cons,List.length_nil,Nat.reduceAdd,Nat.reduceSub,Array.replicate_succ,Array.replicate_zero,List.push_toArray,List.append_toArray,List.nil_append,List.cons_append]
 gi_wp2_with fail
 have HB1:Hid (Below ↑w w (w.alloc (.cells #[↑(π b)] 97))):=lh ((Below.refl _ _).alloc (Nat.le_refl _) _);have Q0:Hid (Blk (w.alloc (.cells #[↑(π b)] 97)) w.heap.size 97 #[↑(π b)]):=lh (Blk.new _ _ _);generalize (w.alloc (.cells #[↑(π b)] 97))=w1 at *;generalize hn0:w.heap.size=n0 at Q0 ⊢;have HN0:=lh hn0;clear hn0;refine ⟨trivial,?_⟩;refine (callsIn_wide.2 (HN.out w1)).mono ?_;rintro e w2 ⟨rfl,hb,hbe⟩;have HB2:=lh (aD HB1.out hbe HB1.out.size);have P0:=lh (Q0.out.keep hbe);have PS:=lh hb;have HSz:Hid (w.heap.size≤↑w1):=lh HB1.out.size;clear hb hbe Q0 HB1 HN;generalize w1.heap.size=ns at *
 gi_wp2_with fail
 refine ⟨trivial,?_⟩;refine (callsIn_wide.2 (HPt.out ns w2 PS.out (HI.out.keep HB2.out))).mono ?_;rintro e w3 ⟨rfl,⟨vs,Q,hb3,hs3,hpu,hle⟩,hfr⟩;have R0:=lh (P0.out.fr hfr (by simpa using P0.out.ty PS.out (by decide)));have HB3:Hid (Below ↑w w w3):=lh (HB2.out.trans ⟨hfr.os,hfr.tape,hfr.output,hfr.size,fun k hk=>hfr.block k (Nat.lt_of_lt_of_le hk HB2.out.size) (by simp;have:=HSz.out;omega)⟩);have HPu:=lh hpu;have HQl:Hid (Q.length≤5500):=lh (by have:=HLL.out;have:=HM.out;omega);have HAl:=lh (fun W (k:Below ↑w3 w3 W)=>GA ns vs Q W (hb3.keep k) (by
  rcases hs3 with ⟨e1,e2⟩ | ⟨P,h1,h2,h3,h4,h5⟩
  ·exact .inl ⟨e1,e2⟩
  ·exact .inr ⟨P,jF h1 (fun g cs _ hb=>k.block g hb.lt),h2.keep k,h3,h4,h5⟩) HQl.out)
 clear hb3 hs3 hpu hle hfr P0 PS HB2 HPt HI HM HLL;have c0:=(R0.out.alloc (.cells #[.slice none 0 0] 67)).cell (i:=0) rfl
 gi_wp2_with fail
 have f2:Below ↑w3 w3 (w3.alloc (.cells #[.slice none 0 0] 67)):=(Below.refl _ _).alloc (Nat.le_refl _) _;have S0:=lh (R0.out.keep f2);have S8:Hid (Blk (w3.alloc (.cells #[.slice none 0 0] 67)) w3.heap.size 67 #[.slice none 0 0]):=lh (Blk.new _ _ _);have BA:Hid (Below ↑w3 w3 (w3.alloc (.cells #[.slice none 0 0] 67))):=lh f2;have hn8:↑w≤w3.heap.size:=HB3.out.size;generalize (w3.alloc (.cells #[.slice none 0 0] 67))=w4 at *;generalize hz3:w3.heap.size=n8 at S8 hn8 ⊢;clear f2 c0 R0;have HTk:=lh (oZ b n8 w4);unfold tfn at HTk;refine ⟨trivial,?_⟩;refine (callsIn_wide.2 HTk.out).mono ?_;rintro e w5 ⟨rfl,rfl⟩;have bt1:=o8 w4 b n8;have BB:=lh (BA.out.trans (bt1.mono BA.out.size));have T0:=lh (S0.out.keep bt1);have T8:=lh (S8.out.keep bt1);have T5:=lh (MX w4 b n8);have T6:=lh (MY w4 b n8);generalize tw1 w4 b n8=w5 at *;generalize w4.heap.size + 1=n6 at *;generalize w4.heap.size=n5 at *;clear BA S0 S8 HTk bt1
 gi_wp2_with fail
 have f3:Below ↑w5 w5 (w5.alloc (.cells #[.func (.func 159) #[] #[↑(π n5),↑(π n6)]] 200)):=(Below.refl _ _).alloc (Nat.le_refl _) _;have BC:=lh (BB.out.trans (f3.mono BB.out.size));have U0:=lh (T0.out.keep f3);have U8:=lh (T8.out.keep f3);have U5:=lh (T5.out.keep f3);have U6:=lh (T6.out.keep f3);have U9:Hid (Blk (w5.alloc (.cells #[.func (.func 159) #[] #[↑(π n5),↑(π n6)]] 200)) w5.heap.size 200 #[.func (.func 159) #[] #[↑(π n5),↑(π n6)]]):=lh (Blk.new _ _ _);generalize (w5.alloc (.cells #[.func (.func 159) #[] #[↑(π n5),↑(π n6)]] 200))=w6 at *;generalize w5.heap.size=n9 at *;clear BB T0 T5 T6 T8 f3;have HAm:=lh (HAl.out w6 BC.out);refine ⟨trivial,?_⟩;refine (callsIn_wide.2 HAm.out).mono ?_;rintro e w7 ⟨v7,rfl,k1,k2,k3⟩;have HB7:Hid (Below ↑w w w7):=lh ((HB3.out.trans (BC.out.mono HB3.out.size)).trans (k2.mono (HB3.out.trans (BC.out.mono HB3.out.size)).size));have hI0:TkS w b rb g n8 (aE b rb g s) (s.ack (AK s (Q.take 0))) ((AK s (Q.take 0)).map Kp.p) (tE b n0 n5 n6 n8 n9 v7 Q) w7:=by
  rw [KW];refine ⟨?_,⟨U0.out.keep k2,U5.out.keep k2,U6.out.keep k2,U9.out.keep k2,k1⟩,⟨_,U8.out.keep k2,PR.nil _,fun k e=>by cases e⟩,Fr.of_below HB7.out _⟩;rw [LS.ack_nil];exact HH.out.keep HB7.out
 obtain ⟨p7,c7,rfl⟩:=k1.form0;have HI0:=lh hI0;clear hI0 HAm HAl U0 U5 U6 U8 U9 BC HB3 k1 k2 k3 HH hz3
 gi_wp2_with fail
 refine wpIn_loop (fun a W=>∃(k:Nat) (u11 u28 u29 u30 u31 u32 u33 u54:Value) (DS:List Nat),k≤Q.length∧a={tmps:=#[↑(π b),.slice p ll c,↑(π n0),undef,.slice none 0 0,.int .i64 0,↑(π ns),.int .i64 0,↑(π n8),↑(π n9),undef,u11,undef,↑(π b),.bool false,↑(π ns),↑(π ns),.slice p ll c,.int .i64 0,.int .i64 0,.bool false,undef,↑(π b),.func (.func 159) #[] #[↑(π n5),↑(π n6)],↑(π ns),.slice p7 Q.length c7,.int .i64 (Q.length:Int),.int .i64 (k:Int),u28,u29,u30,u31,u32,u33,undef,undef,undef,undef,undef,undef,undef,undef,undef,undef,undef,undef,undef,undef,undef,undef,undef,undef,undef,undef,u54,undef,undef,undef],defers:=DS.map mk1}∧TkS w b rb g n8 (aE b rb g s) (s.ack (AK s (Q.take k))) ((AK s (Q.take k)).map Kp.p) (tE b n0 n5 n6 n8 n9 (.slice p7 Q.length c7) Q) W∧dO w.heap.size DS W)
  (fun a _=>Q.length - (intOf (a.tmps.getD 27 undef)).toNat) ?start ?round
 case start=>exact ⟨0,undef,undef,undef,undef,undef,undef,undef,undef,[],Nat.zero_le _,rfl,HI0.out,dO.nil _ _⟩
 case round=>
  rintro a W ⟨k,u11,u28,u29,u30,u31,u32,u33,u54,DS,hk,rfl,hI,hM⟩;have HI:=lh hI;have HMk:=lh hM;have c0:=hI.box.q0;clear HI0;by_cases hlt:k < Q.length
  ·have hp:0 < Q.length:=by omega
   obtain ⟨ad,rfl,_⟩:=hI.box.rr.its.cells hp;obtain ⟨g7,off7,rfl,hg7,hc7⟩:=fU hI.box.rr.its hp;obtain ⟨d0,d1⟩:=hc7 k hlt;have i0:(0:Int)≤(k:Int):=by omega
   have i1:(k:Int) < (Q.length:Int):=by omega
   have HAs:=lh (KV HS.out HPu.out.canon hlt);have HSA:Hid ((s.ack (AK s (Q.take k))).ok):=lh (LS.ack_ok HS.out (rA s _));have HLen:=lh HQl.out;clear hI hM hc7;generalize Q.getD k Itm.z=r at *;have q0:=(c0.alloc (.cells #[↑r.a,↑r.b] 190)).cell (i:=0) rfl
   gi_wp2_with fail
   have HBt:=lh (lT b r.a r.b (W.alloc (.cells #[↑r.a,↑r.b] 190)));unfold bfn at HBt;refine ⟨trivial,?_⟩;refine (callsIn_wide.2 HBt.out).mono ?_;rintro e w0 ⟨rfl,rfl⟩;have f2:Below ↑W W (W.alloc (.cells #[↑r.a,↑r.b] 190)):=(Below.refl _ _).alloc (Nat.le_refl _) _;have bb:=fL (W.alloc (.cells #[↑r.a,↑r.b] 190)) b r.a r.b;have hI4:TkS w b rb g n8 (aE b rb g s) (s.ack (AK s (Q.take k) ++ [])) ((AK s (Q.take k) ++ []).map Kp.p) (vK b n0 n5 n6 n8 n9 (.slice (some ⟨g7,off7,none⟩) Q.length c7) Q (W.alloc (.cells #[↑r.a,↑r.b] 190)).heap.size ((W.alloc (.cells #[↑r.a,↑r.b] 190)).heap.size + 1) r.a r.b) (bw1 (W.alloc (.cells #[↑r.a,↑r.b] 190)) b r.a r.b):=by
    have h1:=(HI.out.below (tE.k _ _ _ _ _ _ _ _) f2).below (tE.k _ _ _ _ _ _ _ _) bb;rw [List.append_nil];exact h1.unbox ⟨h1.box,xE _ _ _ _,xF _ _ _ _⟩
   have HI4:=lh hI4;have HM4:=lh ((HMk.out.below f2).below bb);have HSz4:Hid (w.heap.size≤(bw1 (W.alloc (.cells #[↑r.a,↑r.b] 190)) b r.a r.b).heap.size):=lh (hI4.fr.size);clear hI4 HI HMk HBt f2 bb c0 d0 d1 q0;generalize bw1 (W.alloc (.cells #[↑r.a,↑r.b] 190)) b r.a r.b=W5 at *;generalize (W.alloc (.cells #[↑r.a,↑r.b] 190)).heap.size + 1=nr at *;generalize (W.alloc (.cells #[↑r.a,↑r.b] 190)).heap.size=nl at *;generalize W.heap.size=n11 at *
   gi_wp2_with fail
   have HSeq:=lh (iS 5 b rb g nl nr r.a r.b (s.ack (AK s (Q.take k))).ks (by omega) HSA.out.nodup HSA.out.rise (Nat.le_trans (LS.len_le HSA.out) HSA.out.next));have HYl:Hid ((AK s (Q.take k) ++ yK (s.ack (AK s (Q.take k))).ks r.a r.b).length≤6000):=lh (by
    rw [← HAs.out];exact Nat.le_trans (List.length_filter_le _ _) (LS.out_le HS.out))
   generalize hA:AK s (Q.take k)=A at *;have HA:=lh hA;clear hA;refine fB.1 (gf:=160) (lb:=#[↑(π nl),↑(π nr)]) rfl (enters_of func160 (by kernel_rfl) rfl) HSeq.out (fun _=>rfl)
    (fun pre W=>TkS w b rb g n8 (aE b rb g s) (s.ack (A ++ pre)) ((A ++ pre).map Kp.p) (vK b n0 n5 n6 n8 n9 (.slice (some ⟨g7,off7,none⟩) Q.length c7) Q nl nr r.a r.b) W∧dO w.heap.size DS W)
    (fun c pre W=>False)
    (OwnFrom.and (qS (vK.k _ _ _ _ _ _ _ _ _ _ _ _) HSz4.out) (AL HM4.out.lt)) (fun c=>ownFrom_pure _ _) (fun pre A h=>AJ h.1.led (LS.ack_ks2 _ _ _) (fun t ht=>ht) h.1.box.ql h.1.box.qr) ⟨HI4.out,HM4.out⟩
    (fun x=>{tmps:=#[↑(π b),.slice p ll c,↑(π n0),undef,.slice none 0 0,.int .i64 0,↑(π ns),.int .i64 0,↑(π n8),↑(π n9),undef,↑(π n11),↑(π x.b),↑(π b),.bool false,↑(π ns),↑(π ns),.slice p ll c,.int .i64 0,.int .i64 0,.bool false,undef,↑(π b),.func (.func 159) #[] #[↑(π n5),↑(π n6)],↑(π ns),.slice (some ⟨g7,off7,none⟩) Q.length c7,.int .i64 (Q.length:Int),.int .i64 (k:Int),.bool true,↑(κ g7 (off7 + k * 2)),.agg #[↑r.a,↑r.b],↑(π b),.agg #[↑r.a,↑r.b],.func (.func 160) #[] #[↑(π nl),↑(π nr)],↑(π x.b),undef,undef,undef,undef,undef,undef,undef,undef,undef,undef,undef,undef,undef,undef,undef,undef,undef,undef,undef,u54,undef,undef,undef],defers:=[]})
    ?assign ?body ?done ?stop
   case assign=>
    intro l x W K hK
    gi_wp2
    exact hK
   case body=>
    rintro l2 pre x W8 ⟨hI,hM8⟩ hok;have HM8:=lh hM8;clear hM8;obtain ⟨hxm,hxg,hxn,hxt⟩:=xJ HSA.out (T:=pre.map Kp.b) hok (fun t ht=>ht);have hin:∀y∈A ++ (pre ++ [x]),y∈s.ks:=by
     have:=AN (k:=k) (Q:=Q) (by rw [HA.out];exact hok) HS.out;rwa [HA.out] at this
    have hS2:(s.ack (A ++ pre)).ok:=LS.ack_ok HS.out (fun y hy=>hin y (by simp only [List.mem_append] at hy ⊢;rcases hy with h | h <;> simp [h]));have hxt':x∈(s.ack (A ++ pre)).ks:=by rw [LS.ack_ks2];exact hxt
    have hpl:((A ++ pre).map Kp.p).length≤7000:=by
     have h1:=hok.length_le;have h2:=HYl.out;rw [List.length_append] at h1 h2;rw [List.length_map,List.length_append];omega
    have q9:=hI.box.bx.q9.cell (i:=0) rfl;obtain ⟨v,hv1,hv2,hv3⟩:=hI.out;have HI8:=lh hI;have HV1:=lh hv1;have HV2:=lh hv2;have HV3:=lh hv3;have HXt:=lh hxt';have HXs:Hid (x∈s.ks):=lh (hin x (by simp));have HTK:=lh (iT b rb g n5 n6 n8 x _ v _ W8 hI.led hS2 hxt' hxg hI.box.bx.q5 hI.box.bx.q6 hv1 hv2 hpl);clear hI hok hxm hxn hxt hxt' hin hS2 hpl hv1 hv2 hv3 HI4 HM4 HSeq HYl HAs hxg
    gi_wp2_with fail
    refine ⟨trivial,?_⟩;refine (CallsIn.inRound l2 (callsIn_wide.2 HTK.out)).mono ?_;intro e W9 hp;obtain rfl:=hp.e;have RES:=lh (HI8.out.take (vK.k _ _ _ _ _ _ _ _ _ _ _ _) HXt.out HV1.out HV2.out HV3.out hn8 (.inl (by simp [aE])) (.inl (by simp only [aE,List.mem_cons];exact .inr (.inr (.inr (List.mem_map_of_mem HXs.out))))) hp);have HKp:Hid (∃gn,Blk W9 x.b 208 (Kp.cells x.p gn)):=lh ⟨x.gone || decide (x.b∈[x.b]),RES.out.1.led.kept ⟨x.b,x.p,x.gone || decide (x.b∈[x.b])⟩ (gD (B:=[x.b]) HXt.out)⟩;obtain ⟨gn,hkp⟩:=HKp.out;have HK9:=lh hkp;have HL9:=lh (RES.out.1.led.head);have H09:=lh (RES.out.1.box.bx.q0);clear hp HTK q9 HKp hkp HV1 HV2 HV3;have HNb:Hid (x.b≠b):=lh (HK9.out.ty HL9.out (by decide));have HN0b:Hid (n0≠b):=lh (H09.out.ty HL9.out (by decide));have t7:W9.drew.cell? ⟨b,7,none⟩=some ↑((s.ack (A ++ pre)).top):=HL9.out.drew.cell (i:=7) rfl;have f7:=HL9.out.drew.free 7
    gi_wp2_with fail
    refine bV (S:=fun w'=>Blk w' n0 97 #[↑(π b)]∧Blk w' x.b 208 (Kp.cells x.p gn)) (by rintro ⟨_,_,h⟩;exact h) (by kernel_rfl) (by kernel_rfl) ⟨H09.out.drew,HK9.out.drew⟩ (fun hHeld=>?_);simp only [List.size_toArray,List.length_cons,List.length_nil,Nat.reduceAdd,Array.replicate_succ,Array.replicate_zero,List.push_toArray,List.nil_append,List.cons_append];refine wpAnyH_take (i:=0) (oi:=⟨some 38,_,_,_,_,_⟩) (v:=?v1) rfl (by kernel_rfl) (by kernel_rfl) (by kernel_rfl) (fun _ _ _ h=>h) (Or.inl ⟨by rfl,?y1⟩) (by assumption) ?r1
    case y1=>intro w hSw;obtain ⟨s0,s1⟩:=hSw;have s2:=s0.cell (i:=0) rfl;obtain ⟨s3,_⟩:=fH s1;go_simp;(try with_reducible rfl)
    simp only [Act.put,List.setIfInBounds_toArray,List.set_cons_zero,List.set_cons_succ];refine wpAnyH_take (i:=1) (oi:=⟨some 39,_,_,_,_,_⟩) (v:=?v2) rfl (by kernel_rfl) (by kernel_rfl) (by kernel_rfl) (fun _ _ _ h=>h) (Or.inl ⟨by rfl,?y2⟩) (by assumption) ?r2
    case y2=>intro w hSw;obtain ⟨s0,s1⟩:=hSw;have s2:=s0.cell (i:=0) rfl;obtain ⟨s3,_⟩:=fH s1;go_simp;(try with_reducible rfl)
    simp only [Act.put,List.setIfInBounds_toArray,List.set_cons_zero,List.set_cons_succ];refine wpAnyH_take (i:=2) (oi:=⟨some 40,_,_,_,_,_⟩) (v:=?v3) rfl (by kernel_rfl) (by kernel_rfl) (by kernel_rfl) (fun _ _ _ h=>h) (Or.inl ⟨by rfl,?y3⟩) (by assumption) ?r3
    case y3=>intro w hSw;obtain ⟨s0,s1⟩:=hSw;have s2:=s0.cell (i:=0) rfl;obtain ⟨s3,_⟩:=fH s1;go_simp;(try with_reducible rfl)
    simp only [Act.put,List.setIfInBounds_toArray,List.set_cons_zero,List.set_cons_succ];refine tkc 3 ?_;refine tkc 4 ?_;refine tkc 6 ?_;refine tkc 7 ?_;refine tkc 8 ?_;refine tkc 9 ?_;refine wpAnyH_take (i:=10) (oi:=⟨some 48,_,_,_,_,_⟩) (v:=?v10) rfl (by kernel_rfl) (by kernel_rfl) (by kernel_rfl) (fun _ _ _ h=>h) (Or.inl ⟨by rfl,?y10⟩) (by assumption) ?r10
    case y10=>intro w hSw;obtain ⟨s0,s1⟩:=hSw;have s2:=s0.cell (i:=0) rfl;obtain ⟨s3,_⟩:=fH s1;go_simp;(try with_reducible rfl)
    simp only [Act.put,List.setIfInBounds_toArray,List.set_cons_zero,List.set_cons_succ];refine rdy [5] ?_;refine cns (fun K hK=>?_) .nil;go_simp;refine bck hK hHeld (fun hHeld=>?_);clear hK;refine rdy [11] ?_;refine cns (fun K hK=>?_) .nil;go_simp;refine bck hK hHeld (fun hHeld=>?_);clear hK;refine tkc 12 ?_;refine tkc 13 ?_;refine rdy [14] ?_;refine cns (fun K hK=>?_) .nil;go_simp;refine bck hK ⟨hHeld.1.set_other 7 _ HN0b.out,hHeld.2.set_other 7 _ HNb.out⟩ (fun hHeld=>?_);clear hK;refine tkc 15 ?_;refine tkc 16 ?_;refine rdy [17] ?_;refine cns (fun K hK=>?_) .nil;have HL10:=(HL9.out.set 7 (.int .u64 (max ((s.ack (A ++ pre)).top:Int) (x.p.n:Int)))).drew;have t8:=HL10.cell (i:=8) rfl;have f8:=HL10.free 8;go_simp;refine bck hK ⟨hHeld.1.set_other 8 _ HN0b.out,hHeld.2.set_other 8 _ HNb.out⟩ (fun hHeld=>?_);clear hK;refine wpAnyH_done (by kernel_rfl) ?_ _
    gi_wp2
    show KeepsFrom _ _ _∧TkS w b rb g n8 (aE b rb g s) (s.ack (A ++ (pre ++ [x]))) ((A ++ (pre ++ [x])).map Kp.p) _ _∧dO _ _ _
    rw [← List.append_assoc];exact AM (vK.k _ _ _ _ _ _ _ _ _ _ _ _) (by simp [aE]) RES.out.1 RES.out.2 HM8.out _
   case done=>
    rintro D xs W' hD hDl rfl ⟨hI,hM'⟩ hK;have HI':=lh (hI.unbox hI.box.bx);have HM':=lh (hM'.cons (fun hm=>by have:=HM4.out.lt D hm;omega) (by have:=HSz4.out;omega) hK);clear hI hM' hK HI4 HSeq HYl
    gi_wp2
    have e1:wrap64 ((k:Int) + 1)=((k + 1:Nat):Int):=by
     have:=HLen.out;unfold wrap64;omega
    rw [e1];refine ⟨⟨k + 1,↑(π n11),.bool true,↑(κ g7 (off7 + k * 2)),.agg #[↑r.a,↑r.b],↑(π b),.agg #[↑r.a,↑r.b],.func (.func 160) #[] #[↑(π nl),↑(π nr)],.int .i64 ((k + 1:Nat):Int),D :: DS,hlt,rfl,by rw [HAs.out];exact HI'.out,HM'.out⟩,?_⟩;simp [intOf]
    omega
   case stop=>
    rintro D c pre W hD hDl hpre hF hK;exact hF.elim
  ·obtain rfl:k=Q.length:=by omega
   obtain ⟨v,hv1,hv2,hv3⟩:=hI.out;rw [List.take_length] at hI hv2;have HI:=lh hI;have HV1:=lh hv1;have HV2:=lh hv2;have HV3:=lh hv3;have q0:=c0.cell (i:=0) rfl;have HNr:=lh (jV b rb g _ W hI.led (LS.ack_ok HS.out (rA s Q)));clear hI hv1 hv2 hv3 hM c0
   gi_wp2_with fail
   refine ⟨trivial,?_⟩;refine (callsIn_wide.2 HNr.out).mono ?_;intro e W2 hn;obtain rfl:=hn.e;have HM2:=lh (HMk.out.keep (bZ hn.fr (fun y hy=>.inr (HI.out.led.cells y hy))));have c4:=(HV1.out.fr hn.fr (HI.out.led.off HV1.out (by decide) (by decide) (by decide) (by decide))).cell (i:=0) rfl;have HE:=lh (KY HS.out HI.out HV2.out HV3.out hn);clear hn q0 HNr
   gi_wp2
   refine rB (B:=w.heap.size) (jG w b rb g s Q (.returned (.tuple #[v,.int .i64 0]))) (fun W D h h1 h2=>h.mark h1 h2) (fun W h=>?_) DS W2 HM2.out HE.out;refine ⟨.tuple #[v,.int .i64 0],?_,Q,HPu.out,h⟩;simp [results,Tryz.f64]
end

section
open Go.RowKit
def cE (l:List Rn) (n:Nat):Bool:=l.any fun r=>decide (r.a≤n) && decide (n≤r.b)
theorem GB {l:List Rn} {n:Nat}:cE l n=true↔InR l n:=by
 unfold cE InR;rw [List.any_eq_true];constructor
 ·rintro ⟨r,hr,h⟩
  exact ⟨r,hr,by simpa using h⟩
 ·rintro ⟨r,hr,h⟩
  exact ⟨r,hr,by simpa using h⟩
theorem GC {Q:List Rn} {p:Pk}:iY Q p=true↔InR Q p.n:=by
 unfold iY InR;rw [List.any_eq_true];constructor
 ·rintro ⟨r,hr,h⟩
  exact ⟨r,hr,by simpa using h⟩
 ·rintro ⟨r,hr,h⟩
  exact ⟨r,hr,by simpa using h⟩
theorem GD {l Q:List Rn} (h:BP [] l Q):iY Q=fun p=>cE l p.n:=by
 funext p
 rw [Bool.eq_iff_iff,GC,h.mem,GB];constructor
 ·rintro (c | c)
  ·exact absurd c (wA _)
  ·exact c
 ·exact .inr
def QP (t:Nat) (out:List Pk):Nat:=out.foldl (fun t p=>max t p.n) t
theorem AO (s:LS) (kb:Nat) (p:Pk) (m:Bool):cT (s.push kb p m).ks=cT s.ks ++ [p]:=by
 unfold cT;show (aW (s.ks ++ [_])).map Kp.p=_
 rw [lI,List.map_append];rfl
theorem lK.imp {s:LS} {P P':LS→Prop} (h:lK w b rb g s P w') (k:∀s',P s'→P' s'):lK w b rb g s P' w':=by
 obtain ⟨⟨rb',g',s',k1,k2,k3,k5⟩,k6⟩:=h;exact ⟨⟨rb',g',s',k1,k2,k _ k3,k5⟩,k6⟩

def cP (w:World) (B:Own) (b:Nat) (L:PL):Prop:=∃rb g s,LAt w b rb g s∧s.ok∧cT s.ks=L.out∧s.next=L.next∧s.top=L.top∧s.topped=L.topped∧s.reorder=L.reorder∧∀x∈aE b rb g s,B.o x
theorem cP.keep {B:Own} {b:Nat} {L:PL} {w w':World} (h:cP w B b L) (k:Below ↑w w w'):cP w' B b L:=by
 obtain ⟨rb,g,s,h1,h2⟩:=h;exact ⟨rb,g,s,h1.keep k,h2⟩
def KL (w w':World):Prop:=∀z T cs,Blk w z T cs→T≠156→T≠254→T≠177→T≠208→Blk w' z T cs
theorem KL.below (k:Below ↑w w w'):KL w w':=fun z T cs h _ _ _ _=>h.keep k
theorem KL.refl (w:World):KL w w:=fun z T cs h _ _ _ _=>h
theorem KL.trans {a b c:World} (h:KL a b) (k:KL b c):KL a c:=fun z T cs hz e1 e2 e3 e4=>k z T cs (h z T cs hz e1 e2 e3 e4) e1 e2 e3 e4
theorem KL.led {s:LS} (hl:LAt w b rb g s) (k:Fr w w' (aE b rb g s)):KL w w':=fun z T cs hz e1 e2 e3 e4=>by
 unfold Blk;rw [k.block z hz.lt (hl.off hz e1 e2 e3 e4)];exact hz
theorem AP {B:Own} {L:List Nat} (k:Fr w w' L) (hw:B.up w.heap.size) (hL:∀x∈L,B.o x):aH B w w':=(aH.refl _ _).fr k hL
theorem cP.end {B:Own} {s:LS} {L':PL} (h5:∀x∈aE b rb g s,B.o x) (hw:B.up w.heap.size) (k:lK w b rb g s (fun s'=>cT s'.ks=L'.out∧s'.next=L'.next∧s'.top=L'.top∧s'.topped=L'.topped∧s'.reorder=L'.reorder) w'):cP w' B b L'∧aH B w w':=by
 obtain ⟨⟨rb',g',s',k1,k2,⟨k3,k4,k5,k6,k7⟩,k8⟩,k9⟩:=k;refine ⟨⟨rb',g',s',k1,k2,k3,k4,k5,k6,k7,fun x hx=>?_⟩,AP k9 hw h5⟩;rcases k8 x hx with c | c
 ·exact h5 x c
 ·exact hw x c
theorem PL.lost_eq {L:PL} {s:LS} (h1:s.topped=L.topped) (h2:s.top=L.top) (h3:s.reorder=L.reorder) (h4:s.ok) (now delay limit:Nat):Go.Proofs.YtjhiooggnpbecaaGreatDoor.lostB s now delay limit=L.lostB now delay limit:=by
 funext p
 unfold Go.Proofs.YtjhiooggnpbecaaGreatDoor.lostB PL.lostB kE passB;rw [h1,h2,h3];cases hs:L.topped
 ·have:=h4.un (by rw [h1,hs])
  rw [h2] at this;simp [this]
 ·simp [Bool.or_comm,Bool.or_assoc]
theorem K7 (reorder:Nat) (w:World) (hr:reorder≤↑ω):
  Calls prog 55 #[↑reorder] w fun e w'=>∃b,e=.returned ↑(π b)∧cP w' (Own.at_ w.heap.size) b ⟨[],0,reorder,0,false⟩∧Below ↑w w w':=by
 refine (KH reorder w).mono ?_;rintro e w' ⟨⟨b,rb,g,rfl,h1,h2⟩,h3⟩;exact ⟨b,rfl,⟨rb,g,_,h1,LS.empty_ok hr,rfl,rfl,rfl,rfl,rfl,h2⟩,h3⟩
theorem GE {B:Own} {L:PL} (hw:B.up w.heap.size) (h:cP w B b L) (hx:L.next≤5999) (p:Pk) (hp:p.ok) (hpn:p.n=L.next):
  Calls prog 183 #[↑(π b),↑p.size,.agg #[↑p.sent,↑p.first,↑p.deliv,↑p.at_,.bool p.lim]] w fun e w'=>e=.returned ↑L.next∧cP w' B b {L with out:=L.out ++ [p],next:=L.next + 1}∧aH B w w'∧KL w w':=by
 obtain ⟨rb,g,s,k1,k2,k3,k4,k5,k6,k7,k8⟩:=h;refine (FK b rb g s w k1 k2 p hp (by rw [hpn,k4]) (by omega)).mono ?_;rintro e w' ⟨rfl,⟨g',kb,m1,m2,m3,m4⟩,m5⟩;obtain ⟨a1,a2⟩:=cP.end (L':={L with out:=L.out ++ [p],next:=L.next + 1}) k8 hw ⟨⟨rb,g',_,m1,LS.push_ok k2 hp (by rw [hpn,k4]) (by omega) m2,⟨by rw [AO,k3],by show s.next + 1=_;rw [k4],k5,k6,k7⟩,fun x hx=>by
  simp only [aE,LS.push,List.map_append,List.mem_cons,List.mem_append,List.map_cons,List.map_nil,List.not_mem_nil,or_false] at hx ⊢;rcases hx with rfl | rfl | rfl | hx | rfl
  ·simp
  ·simp
  ·rcases m3 with rfl | m3
   ·simp
   ·exact .inr m3
  ·exact .inl (.inr (.inr (.inr hx)))
  ·exact .inr m4⟩,m5⟩
 exact ⟨by rw [k4],a1,a2,KL.led k1 m5⟩
def PL.take (L:PL) (f:Pk→Bool):PL:=⟨L.out.filter (fun p=>!f p),L.next,L.reorder,QP L.top (L.out.filter f),L.topped || !(L.out.filter f).isEmpty⟩
theorem K9 {B:Own} {L:PL} (hw:B.up w.heap.size) (h:cP w B b L) (lp:Option Addr) (lc:Nat) (l:List Rn) (hl:Its w lp l) (hm:l.length≤5500) (ho:l.all okB=true) (hu:∀q∈l,q.u64):
  Calls prog 64 #[↑(π b),.slice lp l.length lc] w fun e w'=>∃v,e=.returned (.tuple #[v,.int .i64 0])∧PR w' v (L.out.filter fun p=>cE l p.n)∧(∀k,v.ownBlock=some k→↑w≤k)∧cP w' B b (L.take fun p=>cE l p.n)∧aH B w w'∧KL w w':=by
 obtain ⟨rb,g,s,k1,k2,k3,k4,k5,k6,k7,k8⟩:=h;refine (KZ b rb g lp lc l s w k1 k2 hl hm ho hu).mono ?_;rintro e w' ⟨Q,hQ,⟨v,rfl,m1,m2⟩,m3⟩;have hq:=GD hQ;rw [hq,k3] at m1 m3;obtain ⟨a1,a2⟩:=cP.end (L':=L.take fun p=>cE l p.n) k8 hw (m3.imp fun s' (k:_∧_∧_∧_∧_)=>⟨k.1,by rw [k.2.2.1,k4];rfl,by rw [k.2.2.2.1,k5];rfl,by rw [k.2.2.2.2,k6];rfl,by rw [k.2.1,k7];rfl⟩);exact ⟨v,rfl,m1,m2,a1,a2,KL.led k1 m3.fr⟩
theorem GF {B:Own} {L:PL} (hw:B.up w.heap.size) (h:cP w B b L) (now delay limit:Nat) (hdl:delay≤↑ω) (hlm:limit≤↑ω):
  Calls prog 121 #[↑(π b),↑now,↑delay,↑limit] w fun e w'=>∃v,e=.returned v∧PR w' v (L.out.filter (L.lostB now delay limit))∧(∀k,v.ownBlock=some k→↑w≤k)∧cP w' B b {L with out:=L.out.filter fun p=>!L.lostB now delay limit p}∧aH B w w'∧KL w w':=by
 obtain ⟨rb,g,s,k1,k2,k3,k4,k5,k6,k7,k8⟩:=h;refine (FN b rb g now delay limit s w k1 k2 hdl hlm).mono ?_;rintro e w' ⟨⟨v,rfl,m1,m2⟩,m3⟩;have hq:=PL.lost_eq (L:=L) k6 k5 k7 k2 now delay limit;rw [hq,k3] at m1 m3;obtain ⟨a1,a2⟩:=cP.end (L':={L with out:=L.out.filter fun p=>!L.lostB now delay limit p}) k8 hw (m3.imp fun s' (k:_∧_∧_∧_∧_)=>⟨k.1,by rw [k.2.2.1,k4],by rw [k.2.2.2.1,k5],by rw [k.2.2.2.2,k6],by rw [k.2.1,k7]⟩);exact ⟨v,rfl,m1,m2,a1,a2,KL.led k1 m3.fr⟩
theorem rD {B:Own} {L:PL} (h:cP w B b L):
  Calls prog 43 #[↑(π b)] w fun e w'=>e=.returned ↑(vC (kN L.out):Nat)∧w'=w:=by
 obtain ⟨rb,g,s,k1,k2,k3,k4,k5,k6,k7,k8⟩:=h;refine (qR b rb g s w k1).mono ?_;rintro e w' ⟨rfl,rfl⟩;unfold tot;rw [k3];exact ⟨rfl,rfl⟩
end
end Go.Proofs.YtjhiooggnpbecaaGreatDoor
