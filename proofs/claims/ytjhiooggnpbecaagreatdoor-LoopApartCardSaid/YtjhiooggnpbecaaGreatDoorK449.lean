/- Lemmas. -/
import Derived.Test.YtjhiooggnpbecaaGreatDoorK448
set_option linter.unusedVariables false
set_option maxHeartbeats 4000000
set_option maxRecDepth 100000
namespace Go.Proofs.YtjhiooggnpbecaaGreatDoor
open Tryz
open Go.RowKit Cf
variable {L:LD} {l:List StV} {i:Nat} {B:Own} {c:Setup} {t:StV} {w:World}
instance:Itm StV:=⟨⟨0,0,0,none,0,[]⟩,4,fun t=>[↑t.a,↑t.w,↑t.x,.slice t.p t.cs.length t.c],by decide,fun _=>rfl,fun t v h=>by simp only [List.mem_cons,List.not_mem_nil,or_false] at h;rcases h with rfl | rfl | rfl | rfl <;> rfl⟩
theorem PG {ad:Addr} (h:Its w (some ad) l) (hp:0 < l.length):∃b off,ad=⟨b,off,none⟩∧b < w.heap.size∧∀k,k < l.length→∀t,t=l.getD k Itm.z→
  w.cell? ⟨b,off + k * 4,none⟩=some ↑t.a∧w.cell? ⟨b,off + k * 4 + 1,none⟩=some ↑t.w∧w.cell? ⟨b,off + k * 4 + 2,none⟩=some ↑t.x∧w.cell? ⟨b,off + k * 4 + 3,none⟩=some (.slice t.p t.cs.length t.c):=by
 obtain ⟨b,off,e,hb,hc⟩:=h hp;injection e with e
 refine ⟨b,off,e,hb,fun k hk t ht=>?_⟩;have k4:Itm.k StV=4:=rfl;subst ht;have f:=fun j (hj:j < 4)=>hc k j hk (by rw [k4];exact hj);rw [k4] at f;exact ⟨f 0 (by decide),f 1 (by decide),f 2 (by decide),f 3 (by decide)⟩
structure RN where
 x:LN
 e:Int
 d:Nat
 s:Nat
 k:Nat
def LN.run (x:LN):List StV→RN
 | []=>⟨x,0,0,0,0⟩
 | t :: l=>if x.err t=0 then ⟨((x.step t).run l).x,((x.step t).run l).e,x.nd t + ((x.step t).run l).d,x.ns t + ((x.step t).run l).s,x.nk t + ((x.step t).run l).k⟩ else ⟨x.step t,x.err t,x.nd t,x.ns t,x.nk t⟩
def RN.add (r:RN) (d s k:Nat):RN:=⟨r.x,r.e,d + r.d,s + r.s,k + r.k⟩
theorem RN.add_zero (r:RN):r.add 0 0 0=r:=by unfold RN.add;rw [Nat.zero_add,Nat.zero_add,Nat.zero_add]
theorem RN.add_add (r:RN) (a b c d s k:Nat):(r.add a b c).add d s k=r.add (d + a) (s + b) (k + c):=by unfold RN.add;simp only [Nat.add_assoc]
theorem LN.run_yes {x:LN} (h:x.err t=0) (l:List StV):x.run (t :: l)=((x.step t).run l).add (x.nd t) (x.ns t) (x.nk t):=by rw [LN.run,if_pos h];rfl
theorem LN.run_no {x:LN} (h:x.err t≠0) (l:List StV):x.run (t :: l)=⟨x.step t,x.err t,x.nd t,x.ns t,x.nk t⟩:=by rw [LN.run,if_neg h]
theorem LN.some_le {d:Nat} {x:LN} (h:x.ok c i d) (hr:rightC c=true) (hi:i < 80) (t:StV):x.nd t≤5200∧x.ns t≤65∧x.nk t≤65:=by
 have h1:=LN.out_len h t;have h2:=(LN.gone_ok h hr hi t).1;have h3:=qE (x.gone t) (x.k1 t);unfold LN.nd LN.ns LN.nk;refine ⟨?_,?_,?_⟩ <;> repeat' split
 all_goals omega
theorem LpO.set {W:World} {x:LN} {cs:Array Value} (h:LpO W B L x w) (hb:Blk w W.heap.size 42 cs) (hB:B.up W.heap.size) (i:Nat) (u:Value):LpO W B L x (w.setCell ⟨W.heap.size,i,none⟩ u):=by
 obtain ⟨b,n⟩:=xZ hb (hB _ (Nat.le_refl _)) i u;obtain ⟨p,hp⟩:=h.at_;exact ⟨⟨p,hp.kn n (by decide) b⟩,h.bel.trans b,fun T hT z cs q=>(h.kt T hT z cs q).set_other i u (by have:=q.lt;omega)⟩
structure DoR (W:World) (B:Own) (L:LD) (x0:LN) (l:List StV) (c:Setup) (i n m:Nat) (j:Nat) (wr:World):Prop where
 le:j≤l.length
 bel:aH B W wr
 kt:KN nO W wr
 z:Blk wr n 42 (cM 0 0 0)
 st:∃x d a b k,bP wr B L x∧x.ok c (i + j) d∧Blk wr m 42 (cM a b k)∧a≤5200 * j∧b≤65 * j∧k≤65 * j∧x0.run l=(x.run (l.drop j)).add a b k
theorem G3 {x:LN} {d:Nat} (v:Option Addr) (cap:Nat) (W:World) (h:bP W B L x) (ho:x.ok c i d) (hr:rightC c=true) (hi:i + l.length≤80) (hl:∀w,aH B W w→KN nO W w→Its w v l) (ht:∀t∈l,t.ok∧Chs W B t):
  Calls prog 15 #[↑(π L.b),.slice v l.length cap] W fun e w'=>e=.returned (.tuple #[.agg (cM (x.run l).d (x.run l).s (x.run l).k),.int .i64 (x.run l).e])∧LpO W B L (x.run l).x w':=by
 have hsz:=h.size;have HT:=lh ht;have HL:=lh hl;have b1:=aC W (.cells (cM 0 0 0) 42);have b2:=aC (W.alloc (.cells (cM 0 0 0) 42)) (.cells (cM 0 0 0) 42);have b3:=aD b1 b2 b1.size;have R0:Hid (DoR W B L x l c i W.heap.size (W.heap.size + 1) 0 ((W.alloc (.cells (cM 0 0 0) 42)).alloc (.cells (cM 0 0 0) 42))):=lh ⟨Nat.zero_le _,aH.of b3,KN.below _ b3,(Blk.new W _ _).keep b2,x,d,0,0,0,h.keep b3,ho,Blk.new1 W _ _ _,Nat.zero_le _,Nat.zero_le _,Nat.zero_le _,(RN.add_zero _).symm⟩;have HX:Hid (cM 0 0 0=#[.int .i64 0,.int .i64 0,.int .i64 0]):=lh rfl;generalize hE:x.run l=E at *;have HE:=lh hE;clear h ho b1 b2 b3 hl ht hE;rw [HX.out] at R0;go_enter func15,ntmps15;go_wp2_with fail;generalize (W.alloc (.cells #[.int .i64 0,.int .i64 0,.int .i64 0] 42)).alloc (.cells #[.int .i64 0,.int .i64 0,.int .i64 0] 42)=w1 at *;go_loopw [15] (fun ix wr=>∃j:Nat,ix=.int .i64 (j:Int)∧Hid (DoR W B L x l c i W.heap.size (W.heap.size + 1) j wr)) (fun ix _=>l.length - (intOf ix).toNat)
 case atStart=>exact ⟨0,rfl,R0⟩
 case round=>
  obtain ⟨j,rfl,HD⟩:=hrel;clear R0;have hk:=HD.out.le;by_cases hlt:j < l.length
  ·obtain ⟨ad,rfl,_⟩:=(HL.out wr HD.out.bel HD.out.kt).cells (by omega)
   obtain ⟨g,off,rfl,_,hc⟩:=PG (HL.out wr HD.out.bel HD.out.kt) (by omega);obtain ⟨t,htt⟩:∃t,t=l.getD j Itm.z:=⟨_,rfl⟩;obtain ⟨a0,a1,a2,a3⟩:=hc j hlt t htt;have htm:t∈l:=by rw [htt];simp [hlt]
   have HDr:Hid (l.drop j=t :: l.drop (j + 1)):=lh (by rw [List.drop_eq_getElem_cons hlt,htt,List.getD_eq_getElem?_getD,List.getElem?_eq_getElem hlt];rfl);obtain ⟨y,d',a,b,k,hy,hyo,hR,ha,hb,hkk,hrun⟩:=HD.out.st;have ti:=HT.out t htm;rw [HDr.out] at hrun;have hdo:=lh (fun (w:World) (q:Below ↑wr wr w)=>Q7 (i:=i + j) w (hy.keep q) hyo hr (by omega) ti.1 (ti.2.bel (HD.out.bel.trans (aH.of q))) (W.heap.size + 1) a b k (hR.keep q) (hsz _ (by omega)) (by omega) (by omega) (by omega));have HZ:=lh HD.out.z;have HRu:=lh hrun;have HSo:=lh (LN.some_le hyo hr (by omega) t);have HOk:=lh (LN.step_ok hyo hr (by omega) t);have HBw:=lh HD.out.bel;have HKw:=lh HD.out.kt;have HBa:=lh (show a≤5200 * j∧b≤65 * j∧k≤65 * j from ⟨ha,hb,hkk⟩);have HyB:=lh hy.size;have i0:(0:Int)≤(j:Int):=by omega
   have i1:(j:Int) < (l.length:Int):=by omega
   clear hc htt hy hyo hR hrun ha hb hkk ti HD HT HL;have HC:Hid (t.cells=#[↑t.a,↑t.w,↑t.x,.slice t.p t.cs.length t.c]):=lh rfl;have hz:=aC wr (.cells #[↑t.a,↑t.w,↑t.x,.slice t.p t.cs.length t.c] 47);have HBe:=lh hz;have hnb:=Blk.new wr 47 #[↑t.a,↑t.w,↑t.x,.slice t.p t.cs.length t.c];have HZ2:=lh (HZ.out.keep hz);rw [HC.out] at hdo;clear hz;go_upto_region 7 with fail
   generalize wr.alloc (.cells #[↑t.a,↑t.w,↑t.x,.slice t.p t.cs.length t.c] 47)=w2 at *;clear a0 a1 a2 a3;have c0:=hnb.cell (i:=0) (v:=↑t.a) rfl;have c1:=hnb.cell (i:=1) (v:=↑t.w) rfl;have c2:=hnb.cell (i:=2) (v:=↑t.x) rfl;have c3:=hnb.cell (i:=3) (v:=.slice t.p t.cs.length t.c) rfl;clear hnb;go_wp2_with fail;refine (hdo.out _ HBe.out).mono ?_;rintro e w3 ⟨rfl,hA,hB3,hK3,hR3⟩;have HA:=lh hA;have HR3:=lh hR3;have HB3:=lh (HBw.out.trans ((aH.of HBe.out).trans hB3));have HK3:Hid (KN nO W w3):=lh (fun T hT z cs q=>hK3 T hT z cs (fun e=>by have:=q.lt;omega) ((HKw.out T hT z cs q).keep HBe.out));have HZ3:Hid (Blk w3 W.heap.size 42 (cM 0 0 0)):=lh (hK3 _ (by decide) _ _ (by omega) HZ2.out);clear hA hR3 hB3 hK3 c0 c1 c2 c3 hdo HBe HZ2 HZ HBw HKw;have er0:=lh (show (y.err t=0→_)∧(y.err t≠0→_) from ⟨fun q=>HRu.out.trans (congrArg (RN.add · a b k) (LN.run_yes q (l.drop (j + 1)))),fun q=>HRu.out.trans (congrArg (RN.add · a b k) (LN.run_no q (l.drop (j + 1))))⟩);by_cases he:y.err t=0
   ·have hE:=(er0.out.1 he).trans (RN.add_add _ _ _ _ _ _ _)
    have d1:(y.err t == 0)=true:=by rw [he];rfl
    have HE':=lh hE;clear er0 HRu hE;go_wp2_with fail;go_roundw
    case rel=>
     obtain ⟨q,hq⟩:=HOk.out;have h1:=HBa.out;have h2:=HSo.out;exact ⟨j + 1,by go_num,lh ⟨by omega,HB3.out,HK3.out,HZ3.out,y.step t,_,_,_,_,HA.out,hq,HR3.out,by omega,by omega,by omega,HE'.out⟩⟩
    case measure=>simp [intOf];omega
   ·have hE:=er0.out.2 he
    have d1:(y.err t == 0)=false:=beq_eq_false_iff_ne.2 he;have r0:=HR3.out.cell (i:=0) (v:=.int .i64 ((a + y.nd t:Nat):Int)) rfl;have r1:=HR3.out.cell (i:=1) (v:=.int .i64 ((b + y.ns t:Nat):Int)) rfl;have r2:=HR3.out.cell (i:=2) (v:=.int .i64 ((k + y.nk t:Nat):Int)) rfl;have z0:=HZ3.out.cell (i:=0) (v:=.int .i64 0) rfl;have z1:=HZ3.out.cell (i:=1) (v:=.int .i64 0) rfl;have z2:=HZ3.out.cell (i:=2) (v:=.int .i64 0) rfl;have zf:=HZ3.out.free;have HE':=lh (HE.out.symm.trans hE);clear er0 HRu hE;generalize hd:a + y.nd t=D at *;generalize hs:b + y.ns t=S at *;generalize hk2:k + y.nk t=K at *;have HDSK:=lh (show a + y.nd t=D∧b + y.ns t=S∧k + y.nk t=K from ⟨hd,hs,hk2⟩);clear hd hs hk2;have O1:=LpO.set (w:=w3) ⟨HA.out,HB3.out,HK3.out⟩ HZ3.out hsz 0 (.int .i64 (D:Int));have Z1:=HZ3.out.set 0 (.int .i64 (D:Int));have O2:=O1.set Z1 hsz 1 (.int .i64 (S:Int));have Z2:=Z1.set 1 (.int .i64 (S:Int));have O3:=O2.set Z2 hsz 2 (.int .i64 (K:Int));have HF:=lh (Z2.set 2 (.int .i64 (K:Int)));have HO:=lh O3;clear O1 Z1 O2 Z2 O3;go_wp2_with fail;refine bodyPost_ret (aF rfl _ _ W.heap.size 42 _ _ rfl HF.out underlying42 rfl (by kernel_rfl)) rfl ?_;rw [HE'.out];exact ⟨by rw [← HDSK.out.1,← HDSK.out.2.1,← HDSK.out.2.2];rfl,HO.out⟩
  ·obtain rfl:j=l.length:=by omega
   obtain ⟨y,d',D,S,K,hy,hyo,hR,ha,hb,hkk,hrun⟩:=HD.out.st;rw [List.drop_length] at hrun;have HE':=lh (HE.out.symm.trans hrun);have HDSK:=lh (show D + 0=D∧S + 0=S∧K + 0=K from ⟨rfl,rfl,rfl⟩);have HA:=lh hy;have HB3:=lh HD.out.bel;have HK3:=lh HD.out.kt;have HZ3:=lh HD.out.z;have w3e:∃w3,w3=wr:=⟨_,rfl⟩;obtain ⟨w3,rfl⟩:=w3e;have r0:=hR.cell (i:=0) (v:=.int .i64 (D:Int)) rfl;have r1:=hR.cell (i:=1) (v:=.int .i64 (S:Int)) rfl;have r2:=hR.cell (i:=2) (v:=.int .i64 (K:Int)) rfl;have z0:=HZ3.out.cell (i:=0) (v:=.int .i64 0) rfl;have z1:=HZ3.out.cell (i:=1) (v:=.int .i64 0) rfl;have z2:=HZ3.out.cell (i:=2) (v:=.int .i64 0) rfl;have zf:=HZ3.out.free;clear hy hyo hR ha hb hkk hrun HD HT HL;have O1:=LpO.set (w:=w3) ⟨HA.out,HB3.out,HK3.out⟩ HZ3.out hsz 0 (.int .i64 (D:Int));have Z1:=HZ3.out.set 0 (.int .i64 (D:Int));have O2:=O1.set Z1 hsz 1 (.int .i64 (S:Int));have Z2:=Z1.set 1 (.int .i64 (S:Int));have O3:=O2.set Z2 hsz 2 (.int .i64 (K:Int));have HF:=lh (Z2.set 2 (.int .i64 (K:Int)));have HO:=lh O3;clear O1 Z1 O2 Z2 O3;go_wp2_with fail;refine bodyPost_ret (aF rfl _ _ W.heap.size 42 _ _ rfl HF.out underlying42 rfl (by kernel_rfl)) rfl ?_;rw [HE'.out];exact ⟨by rw [← HDSK.out.1,← HDSK.out.2.1,← HDSK.out.2.2];rfl,HO.out⟩
theorem aK.mono {w:World} {B B':Own} {D:SD} {s:SN} (h:aK w B D s) (hB:∀x,B.o x→B'.o x) (hl:¬ B'.o 0):aK w B' D s:=
 ⟨h.b,h.c,h.l.mono hB,h.t,h.a,h.e.mono hB hl,h.p,hB _ h.own.1,hB _ h.own.2.1,hB _ h.own.2.2.1,hB _ h.own.2.2.2.1,hB _ h.own.2.2.2.2⟩
theorem pH {r d j b:Nat} (hc:∀i,c i≤↑ω) (hr:rightC c=true) (hp:fT r d j b=true) (W:World) (hg:Gl W):
  Calls prog 12 #[.agg (aL c),.agg #[↑r,↑d,↑j,↑b]] W fun e w'=>∃L:LD,e=.returned (.tuple #[↑(π L.b),.int .i64 0])∧bP w' (Own.at_ W.heap.size) L ⟨SN.new c,LKS.start r d j b⟩∧Below ↑W W w':=by
 have HS:=lh (fun w (q:Gl w)=>AZ c hc hr w q);have HK:=lh (fun w=>PD r d j b w hp);have HX:Hid (aL c=#[↑(c 0),↑(c 1),↑(c 2),↑(c 3),↑(c 4),↑(c 5)]):=lh rfl;have b1:=aC W (.cells (aL c) 24);have b2:=aD b1 (aC (W.alloc (.cells (aL c) 24)) (.cells #[↑r,↑d,↑j,↑b] 26)) b1.size;have HG:=lh (hg.keep b2);have C1:=(Blk.new W 24 (aL c)).alloc (.cells #[↑r,↑d,↑j,↑b] 26);have HP:=lh (Blk.new1 W (.cells (aL c) 24) 26 #[↑r,↑d,↑j,↑b]);have HBe:=lh b2;have HLt:=lh hg.lt;have v0:=C1.cell (i:=0) (v:=↑(c 0)) rfl;have v1:=C1.cell (i:=1) (v:=↑(c 1)) rfl;have v2:=C1.cell (i:=2) (v:=↑(c 2)) rfl;have v3:=C1.cell (i:=3) (v:=↑(c 3)) rfl;have v4:=C1.cell (i:=4) (v:=↑(c 4)) rfl;have v5:=C1.cell (i:=5) (v:=↑(c 5)) rfl;clear hg b1 b2 C1 hp hr hc;rw [HX.out] at HS HG HP HBe v0 v1 v2 v3 v4 v5 ⊢;go_enter func12,ntmps12;go_wp2_with fail;refine (HS.out _ HG.out).mono ?_;rintro e w1 ⟨D,rfl,hD,hb⟩;have S1:=lh (hD.mono (B':=Own.at_ W.heap.size) (fun x hx=>Nat.le_trans HBe.out.size hx) (Nat.not_le.2 HLt.out));have B1:=lh (aD HBe.out hb HBe.out.size);have P1:=HP.out.keep hb;clear hD hb v0 v1 v2 v3 v4 v5 HS HG HP;have p0:=P1.cell (i:=0) (v:=↑r) rfl;have p1:=P1.cell (i:=1) (v:=↑d) rfl;have p2:=P1.cell (i:=2) (v:=↑j) rfl;have p3:=P1.cell (i:=3) (v:=↑b) rfl;clear P1;go_wp2_with fail;refine (HK.out _).mono ?_;rintro e w2 ⟨⟨p,rfl,hk,hl⟩,hb⟩;have sz:=B1.out.size;have S2:=lh (S1.out.keep hb);have B2:=lh (aD B1.out hb sz);have K2:=lh hk;have L2:=lh (fun y hy=>Nat.le_trans sz (hl y hy));clear hk hl hb p0 p1 p2 p3 S1 B1 HK sz;have hz:=aC w2 (.cells #[↑(π D.b),↑(π p.b)] 83);have S3:=lh (S2.out.keep hz);have B3:=lh (aD B2.out hz B2.out.size);have K3:=lh (K2.out.keep hz);have N3:=lh (Blk.new w2 83 #[↑(π D.b),↑(π p.b)]);have hn:=B2.out.size;clear hz S2 B2 K2;go_wp2_with fail;go_ret2
 exact ⟨⟨w2.heap.size,D,p.b⟩,rfl,⟨p,N3.out,S3.out,rfl,K3.out,hn,L2.out⟩,B3.out⟩
end Go.Proofs.YtjhiooggnpbecaaGreatDoor
