/- Lemmas. -/
import Derived.Test.YtjhiooggnpbecaaGreatDoorK254
import Derived.Test.YtjhiooggnpbecaaGreatDoorK256
set_option linter.unusedVariables false
set_option maxHeartbeats 8000000
set_option maxRecDepth 100000
namespace Go.Proofs.YtjhiooggnpbecaaGreatDoor
open Tryz
variable {L:LD} {k:LKS} {x:LN} {B:Nat} {W:World}
open Go.RowKit Cf
structure TdI (W:World) (B:Nat) (L:LD) (x:LN) (n1 n2:Nat) (c1 c2:Array Value) (w:World):Prop where
 q:LqI W B L x w
 a:Blk w n1 37 c1
 b:Blk w n2 37 c2
theorem TdI.to {W w w':World} {B:Nat} {L:LD} {x:LN} {n1 n2:Nat} {c1 c2:Array Value} (h:TdI W B L x n1 n2 c1 c2 w) (k:Below ↑w w w'):TdI W B L x n1 n2 c1 c2 w':=⟨h.q.to k,h.a.keep k,h.b.keep k⟩
theorem TdI.lp {W w w':World} {B:Nat} {L:LD} {x y:LN} {n1 n2:Nat} {c1 c2:Array Value} (h:TdI W B L x n1 n2 c1 c2 w) (o:LpO w B L y w'):TdI W B L y n1 n2 c1 c2 w':=⟨h.q.lp o,o.kt _ (by decide) _ _ h.a,o.kt _ (by decide) _ _ h.b⟩
theorem TM {n1 n2:Nat} {c1 c2:Array Value} {a:Addr} {v:Value} (hv:W.cell? a=some v) (ha:a.block < W.heap.size):∀w,Hid (TdI W B L x n1 n2 c1 c2 w)→w.cell? a=some v:=fun w q=>(q.out.q.bel.cell ha).trans hv
theorem zJ (hk:x.k=k) (w:World) (q:LqI W B L x w):
  Calls prog 33 #[↑(π L.pb)] w fun e w'=>e=.returned ↑k.t∧w=w':=hk▸zD w q.at_
theorem oS (hk:x.k=k) (ho:k.ok 5500) (w:World) (q:LqI W B L x w):
  Calls prog 14 #[↑(π L.pb)] w fun e w'=>e=.returned (.agg #[↑(LKS.told k.came),↑k.q.lost,↑k.q.n,↑(LKS.told k.served),↑(LKS.told (k.served - k.deliv)),↑(LKS.told k.deliv)])∧Below ↑w w w':=by
 subst hk;exact lC w q.at_ ho (Nat.le_refl _)
theorem zK {now:Nat} (hk:x.k=k) (ho:k.ok 5500) (hn:k.t≤now) (hm:now≤↑ω) (w:World) (q:LqI W B L x w):
  Calls prog 32 #[↑(π L.pb),↑now,↑ζ,.slice none 0 0] w fun e w'=>∃v,e=.returned (.tuple #[v,.int .i64 0])∧LpO w B L ⟨x.s,k.tick now 0 []⟩ w':=by
 subst hk;exact (zE (t:=⟨0,0,0,none,0,[]⟩) now w q.at_ ho hn hm (jJ 0 0 (by omega) (by omega) w B).1 (jJ 0 0 (by omega) (by omega) w B).2).mono fun e w' z=>by
  obtain ⟨v,e1,_,o⟩:=z;exact ⟨v,e1,o⟩
theorem JR:∀bc bp t1 t2 t3 t4 t5:Bool,bc=false∨bp=false∨t1=true∨t2=true∨t3=true∨t4=true∨t5=true→bc=false∨bc=true∧bp=false∨bc=true∧bp=true∧t1=true∨bc=true∧bp=true∧t1=false∧t2=true∨bc=true∧bp=true∧t1=false∧t2=false∧t3=true∨bc=true∧bp=true∧t1=false∧t2=false∧t3=false∧t4=true∨bc=true∧bp=true∧t1=false∧t2=false∧t3=false∧t4=false∧t5=true:=by
 intro bc bp t1 t2 t3 t4 t5;cases bc <;> cases bp <;> cases t1 <;> cases t2 <;> cases t3 <;> cases t4 <;> cases t5 <;> simp
theorem JS:∀t1 t2 t3:Bool,t1=true∨t2=true∨t3=true→t1=true∨t1=false∧t2=true∨t1=false∧t2=false∧t3=true:=by
 intro t1 t2 t3;cases t1 <;> cases t2 <;> cases t3 <;> simp
theorem iI:(∀(v:Option Addr) (cap b off:Nat) (l:List StV) (c:Setup) (r d j b0:Nat) (W:World) (hg:Gl W) (h:iM W v l b off) (hr:rightC c=false∨cQ r d j b0=false∨¬ (l.length≤60∧r≤1048576∧b0≤1073741824∧d≤1073741824∧j≤1073741824)),Calls prog 7 #[.agg (aK c),.agg #[↑r,↑d,↑j,↑b0],.slice v l.length cap] W fun e w'=>e=.returned (.bool true)∧Below ↑W W w')∧(∀(v:Option Addr) (cap b off:Nat) (l:List StV) (c:Setup) (r d j b0:Nat) (hc:∀i,c i≤↑ω) (W:World) (hg:Gl W) (h:iM W v l b off) (hr:rightC c=true) (hp:cQ r d j b0=true) (hs:l.length≤60∧r≤1048576∧b0≤1073741824∧d≤1073741824∧j≤1073741824),Calls prog 7 #[.agg (aK c),.agg #[↑r,↑d,↑j,↑b0],.slice v l.length cap] W fun e w'=>e=.returned (.bool true)∧Below ↑W W w'):=by
 refine ⟨?_,?_⟩
 have k0v:Hid True:=trivial;intro v cap b off l c r d j b0 W hg h hr;rotate_left;intro v cap b off l c r d j b0 hc W hg h hr hp hs;rotate_left
 all_goals
  have HR:=lh (fun w=>lN c w);have HP:=lh (fun w=>iG.2 r d j b0 w);have HA:=lh (fun w hg=>OM w hg);have HG:=lh hg;have N0:=lh (RU W c r d j b0);have HX:Hid (aK c=#[↑(c 0),↑(c 1),↑(c 2),↑(c 3),↑(c 4),↑(c 5)]):=lh rfl;first
  |revert k0v;intro k0v
  |have HN:=lh (fun w hg=>gW (r:=r) (d:=d) (j:=j) (b:=b0) hc hr hp w hg);have HOk:=lh (LN.new_ok (r:=r) (d:=d) (j:=j) (b:=b0) hr hc (kG hp));have HRt:=lh hr;have HSm:=lh hs;have HI:=lh h;have hr1:1≤r:=by unfold cQ at hp;simp only [Bool.and_eq_true,decide_eq_true_eq] at hp;omega
   have HR1:=lh hr1;rw [hr] at HR;rw [hp] at HP
  have r0:=iN (W:=W) (c:=c) (r:=r) (d:=d) (j:=j) (b0:=b0) (i:=0) (v:=↑(c 0)) rfl;have r1:=iN (W:=W) (c:=c) (r:=r) (d:=d) (j:=j) (b0:=b0) (i:=1) (v:=↑(c 1)) rfl;have r2:=iN (W:=W) (c:=c) (r:=r) (d:=d) (j:=j) (b0:=b0) (i:=2) (v:=↑(c 2)) rfl;have r3:=iN (W:=W) (c:=c) (r:=r) (d:=d) (j:=j) (b0:=b0) (i:=3) (v:=↑(c 3)) rfl;have r4:=iN (W:=W) (c:=c) (r:=r) (d:=d) (j:=j) (b0:=b0) (i:=4) (v:=↑(c 4)) rfl;have r5:=iN (W:=W) (c:=c) (r:=r) (d:=d) (j:=j) (b0:=b0) (i:=5) (v:=↑(c 5)) rfl;have p0:=mR (W:=W) (c:=c) (r:=r) (d:=d) (j:=j) (b0:=b0) (i:=0) (v:=↑r) rfl;have p1:=mR (W:=W) (c:=c) (r:=r) (d:=d) (j:=j) (b0:=b0) (i:=1) (v:=↑d) rfl;have p2:=mR (W:=W) (c:=c) (r:=r) (d:=d) (j:=j) (b0:=b0) (i:=2) (v:=↑j) rfl;have p3:=mR (W:=W) (c:=c) (r:=r) (d:=d) (j:=j) (b0:=b0) (i:=3) (v:=↑b0) rfl;first
  |revert k0v;intro k0v;clear hg h;rw [HX.out] at N0 HR ⊢;generalize rightC c=bc at *;generalize cQ r d j b0=bp at *;obtain ⟨t1,t1a,t1b⟩:∃t:Bool,decide ((60:Int) < (l.length:Int))=t∧decide (60 < l.length)=t:=⟨decide (60 < l.length),by simp only [decide_eq_decide];omega,rfl⟩;obtain ⟨t2,t2a,t2b⟩:∃t:Bool,decide ((1048576:Int) < (r:Int))=t∧decide (1048576 < r)=t:=⟨decide (1048576 < r),by simp only [decide_eq_decide];omega,rfl⟩;obtain ⟨t3,t3a,t3b⟩:∃t:Bool,decide ((1073741824:Int) < (b0:Int))=t∧decide (1073741824 < b0)=t:=⟨decide (1073741824 < b0),by simp only [decide_eq_decide];omega,rfl⟩;obtain ⟨t4,t4a,t4b⟩:∃t:Bool,decide ((1073741824:Int) < (d:Int))=t∧decide (1073741824 < d)=t:=⟨decide (1073741824 < d),by simp only [decide_eq_decide];omega,rfl⟩;obtain ⟨t5,t5a,t5b⟩:∃t:Bool,decide ((1073741824:Int) < (j:Int))=t∧decide (1073741824 < j)=t:=⟨decide (1073741824 < j),by simp only [decide_eq_decide];omega,rfl⟩
   have hz:bc=false∨bp=false∨t1=true∨t2=true∨t3=true∨t4=true∨t5=true:=by
    rcases hr with e | e | e
    ·exact .inl e
    ·exact .inr (.inl e)
    ·by_cases z1:60 < l.length
     ·exact .inr (.inr (.inl (t1b.symm.trans (decide_eq_true z1))))
     by_cases z2:1048576 < r
     ·exact .inr (.inr (.inr (.inl (t2b.symm.trans (decide_eq_true z2)))))
     by_cases z3:1073741824 < b0
     ·exact .inr (.inr (.inr (.inr (.inl (t3b.symm.trans (decide_eq_true z3))))))
     by_cases z4:1073741824 < d
     ·exact .inr (.inr (.inr (.inr (.inr (.inl (t4b.symm.trans (decide_eq_true z4)))))))
     ·exact .inr (.inr (.inr (.inr (.inr (.inr (t5b.symm.trans (decide_eq_true (by omega))))))))
   have hcs:bc=false∨bc=true∧bp=false∨bc=true∧bp=true∧t1=true∨bc=true∧bp=true∧t1=false∧t2=true∨bc=true∧bp=true∧t1=false∧t2=false∧t3=true∨bc=true∧bp=true∧t1=false∧t2=false∧t3=false∧t4=true∨bc=true∧bp=true∧t1=false∧t2=false∧t3=false∧t4=false∧t5=true:=by
    exact JR bc bp t1 t2 t3 t4 t5 hz
   clear hr hz;rcases hcs with rfl | ⟨rfl,rfl⟩ | ⟨rfl,rfl,rfl⟩ | ⟨rfl,rfl,rfl,rfl⟩ | ⟨rfl,rfl,rfl,rfl,rfl⟩ | ⟨rfl,rfl,rfl,rfl,rfl,rfl⟩ | ⟨rfl,rfl,rfl,rfl,rfl,rfl,rfl⟩
   all_goals
    go_enter func7,ntmps7;go_wp2_with fail;refine (HR.out _).mono ?_;rintro e w1 ⟨rfl,hb⟩;have N1:=kF N0 hb;clear N0 hb HR;go_wp2_with fail;refine (HP.out _).mono ?_;rintro e w2 ⟨rfl,hb⟩;have N2:=kF N1 hb;clear N1 hb HP;go_wp2_with fail;refine (HA.out _ (HG.out.keep N2.out.bel)).mono ?_;rintro e w3 ⟨rfl,hb⟩;have N3:=kF N2 hb;clear hb N2;go_wp2_with fail;go_ret;exact ⟨rfl,N3.out.bel⟩
  |have q0:decide ((60:Int) < (l.length:Int))=false:=decide_eq_false (by omega);have q0n:decide (60 < l.length)=false:=decide_eq_false (by omega);have q1:decide ((1048576:Int) < (r:Int))=false:=decide_eq_false (by omega);have q1n:decide (1048576 < r)=false:=decide_eq_false (by omega);have q2:decide ((1073741824:Int) < (b0:Int))=false:=decide_eq_false (by omega);have q2n:decide (1073741824 < b0)=false:=decide_eq_false (by omega);have q3:decide ((1073741824:Int) < (d:Int))=false:=decide_eq_false (by omega);have q3n:decide (1073741824 < d)=false:=decide_eq_false (by omega);have q4:decide ((1073741824:Int) < (j:Int))=false:=decide_eq_false (by omega);have q4n:decide (1073741824 < j)=false:=decide_eq_false (by omega);clear hg hr hc h hp hs hr1;rw [HX.out] at N0 HR HN ⊢;go_enter func7,ntmps7;go_wp2_with fail;refine (HR.out _).mono ?_;rintro e w1 ⟨rfl,hb⟩;have N1:=kF N0 hb;clear N0 hb HR;go_wp2_with fail;refine (HP.out _).mono ?_;rintro e w2 ⟨rfl,hb⟩;have N2:=kF N1 hb;clear N1 hb HP;go_wp2_with fail;refine (HN.out _ (HG.out.keep N2.out.bel)).mono ?_;rintro e w3 ⟨L,rfl,hs,hb⟩;have I3:=lh (show LqI w2 w2.heap.size L ⟨SN.new c,LKS.start r d j b0⟩ w3 from ⟨hs,hb,Nat.le_refl _⟩);have HD:=lh (Dq.start r d j b0);have HLi:=lh (fun (x:LN) (w:World) (q:LqI w2 w2.heap.size L x w)=>m9 w q.at_);have HI2:=HI.out.keep N2.out.bel;have HRul:=lh (fun (k:Nat) (hlt:k < l.length)=>HI2.2.2 k hlt);have HBl:=lh HI2.2.1;have HBe:=lh N2.out.bel;have HPb:=lh N2.out.p;clear hs hb HN r0 r1 r2 r3 r4 r5 p0 p1 p2 p3 N2 HI2 HI q0 q0n q1 q1n q2 q2n q3 q3n q4 q4n;generalize hx0:(⟨SN.new c,LKS.start r d j b0⟩:LN)=x0 at *;have hk0:x0.k=LKS.start r d j b0:=by rw [← hx0]
   rw [← hk0] at HD;clear hx0 hk0;go_wp2_with fail;go_loopw [11] (fun ix wr=>∃(k dd:Nat) (x:LN),ix=.int .i64 (k:Int)∧k≤l.length∧x.ok c k dd∧Dq r d j b0 (1073741824 * k) (4259775 * k) x.k∧Hid (LqI w2 w2.heap.size L x wr)) (fun ix _=>l.length - (intOf ix).toNat);case atStart=>exact ⟨0,0,x0,rfl,Nat.zero_le _,HOk.out,HD.out,I3⟩
   case round=>
    obtain ⟨k,dd,x,rfl,hk,hok,hdq,I⟩:=hrel;clear I3 HOk HD;have HO:=lh hok;have HQ:=lh hdq;clear hok hdq;by_cases hlt:k < l.length
    ·obtain ⟨rfl,hb⟩:=HBl.out (by omega);have A:=HRul.out k hlt;generalize hq0:l.getD k default=q0 at *;clear hq0;have hk60:k < 60:=by have:=HSm.out.1;omega
     have hk80:k < 80:=by omega
     obtain ⟨A1,A2⟩:=A.chs (Nat.le_refl _);have i0:(0:Int)≤(k:Int):=by omega
     have i1:(k:Int) < (l.length:Int):=by omega
     have x0:=(I.out.bel.cell (p:=⟨b,off + k * 4,none⟩) hb).trans A.k0;have x1:=(I.out.bel.cell (p:=⟨b,off + k * 4 + 1,none⟩) hb).trans A.k1;have x2:=(I.out.bel.cell (p:=⟨b,off + k * 4 + 2,none⟩) hb).trans A.k2;have x3:=(I.out.bel.cell (p:=⟨b,off + k * 4 + 3,none⟩) hb).trans A.k3;have HGw:=lh (HG.out.keep (aD HBe.out I.out.bel HBe.out.size));have HEn:=lh (aD HBe.out I.out.bel HBe.out.size);by_cases hbad:60 < q0.cs.length∨1073741824 < q0.a∨1099511627776 < q0.w
     case pos=>
      obtain ⟨t1,t1a,t1b⟩:∃t:Bool,decide ((60:Int) < (q0.cs.length:Int))=t∧decide (60 < q0.cs.length)=t:=⟨decide (60 < q0.cs.length),by simp only [decide_eq_decide];omega,rfl⟩;obtain ⟨t2,t2a,t2b⟩:∃t:Bool,decide ((1073741824:Int) < (q0.a:Int))=t∧decide (1073741824 < q0.a)=t:=⟨decide (1073741824 < q0.a),by simp only [decide_eq_decide];omega,rfl⟩;obtain ⟨t3,t3a,t3b⟩:∃t:Bool,decide ((1099511627776:Int) < (q0.w:Int))=t∧decide (1099511627776 < q0.w)=t:=⟨decide (1099511627776 < q0.w),by simp only [decide_eq_decide];omega,rfl⟩
      have hz:t1=true∨t2=true∨t3=true:=by
       rcases hbad with e | e | e
       ·exact .inl (t1b.symm.trans (decide_eq_true e))
       ·exact .inr (.inl (t2b.symm.trans (decide_eq_true e)))
       ·exact .inr (.inr (t3b.symm.trans (decide_eq_true e)))
      have hcs:t1=true∨t1=false∧t2=true∨t1=false∧t2=false∧t3=true:=by
       exact JS t1 t2 t3 hz
      clear hz hbad A A1 A2 hk60 hk80 HRul HBl;rcases hcs with rfl | ⟨rfl,rfl⟩ | ⟨rfl,rfl,rfl⟩
      all_goals
       go_wp2_with fail;refine (HA.out _ HGw.out).mono ?_;rintro e z1 ⟨rfl,hb⟩;have HB9:=lh (aD HEn.out hb HEn.out.size);clear hb;go_wp2_with fail;go_ret;exact ⟨rfl,HB9.out⟩
     case neg=>
     have ha30:q0.a≤1073741824:=by omega
     have t1:decide ((60:Int) < (q0.cs.length:Int))=false:=decide_eq_false (by omega);have t1n:decide (60 < q0.cs.length)=false:=decide_eq_false (by omega);have t2:decide ((1073741824:Int) < (q0.a:Int))=false:=decide_eq_false (by omega);have t2n:decide (1073741824 < q0.a)=false:=decide_eq_false (by omega);have t3:decide ((1099511627776:Int) < (q0.w:Int))=false:=decide_eq_false (by omega);have t3n:decide (1099511627776 < q0.w)=false:=decide_eq_false (by omega);have HDo:=lh (fun (n:Nat) (w:World) (q:LqS w2 w2.heap.size L x (some n) none q0.cells #[] w)=>JM HO.out HRt.out hk80 A1 A2 w q);obtain ⟨aa,hok2⟩:=LN.step_ok HO.out HRt.out hk80 q0;have HO2:=lh hok2;have HQ2:=lh (HQ.out.step HO.out HRt.out hk80 q0 ha30);have HXc:Hid (q0.cells=#[↑q0.a,↑q0.w,↑q0.x,.slice q0.p q0.cs.length q0.c]):=lh rfl;rw [HXc.out] at HDo;clear hok2 A A1 A2 hbad ha30 HO HQ hb;generalize x.step q0=y at *;generalize x.err q0=er at *;generalize x.nd q0=nd at *;generalize x.ns q0=ns at *;generalize x.nk q0=nk at *;have HXr:Hid (bL nd ns nk=#[.int .i64 (nd:Int),.int .i64 (ns:Int),.int .i64 (nk:Int)]):=lh rfl;rw [HXr.out] at HDo;have M2:Hid (LqS w2 w2.heap.size L x none none #[↑q0.a,↑q0.w,↑q0.x,.slice q0.p q0.cs.length q0.c] #[] wr):=lh ⟨I.out,(fun n e=>nomatch e),(fun n e=>nomatch e)⟩;have M3:=lh M2.out.slice;go_wp2_with fail;refine (HDo.out _ _ M3.out).mono ?_;rintro e u3 ⟨rfl,M4⟩;clear x0 x1 x2 x3 t1 t1n t2 t2n t3 t3n M2 M3 I HGw HEn;have T4:=lh (M4.out.q.to (aC u3 (.cells #[.int .i64 (nd:Int),.int .i64 (ns:Int),.int .i64 (nk:Int)] 42)));clear M4;by_cases her:er=0
     case pos=>
      subst her;go_wp2_with fail;go_roundw;case rel=>exact ⟨k + 1,_,y,by go_num,by omega,HO2.out,HQ2.out,T4⟩
      case measure=>simp [intOf];omega
     case neg=>
      have d0:(er == 0)=false:=beq_eq_false_iff_ne.2 her;have d0b:(er != 0)=true:=by simpa using her
      go_wp2_with fail;generalize hu4:u3.alloc (.cells #[.int .i64 (nd:Int),.int .i64 (ns:Int),.int .i64 (nk:Int)] 42)=u4 at *;clear hu4;refine (HA.out _ (HG.out.keep (aD HBe.out T4.out.bel HBe.out.size))).mono ?_;rintro e z1 ⟨rfl,hb⟩;have HB9:=lh (aD HBe.out (T4.out.to hb).bel HBe.out.size);clear hb;go_wp2_with fail;go_ret;exact ⟨rfl,HB9.out⟩
    ·obtain rfl:k=l.length:=by omega
     have hs:=HSm.out;have hrr:=HR1.out;have hfu:Dq.full r b0≤1000000 * b0 + r - 1:=Nat.div_le_self _ _;have HEd:=lh ((HQ.out.mono (T':=1073741824 * 60) (C':=255586500) (by omega) (by omega)).ends HO.out.k hrr (by omega) (by omega));have hxt:=HQ.out.t;have HOk:=lh (HO.out.k.more (M:=5500) (by omega));have HQ60:=lh (HQ.out.mono (T':=1073741824 * 60) (C':=255586500) (by omega) (by omega));clear HQ HO hlt hk;have hPl:=HPb.out.lt;have HPl:=lh hPl;clear hPl;go_wp2_with fail;refine (HLi.out _ _ I.out).mono ?_;rintro e u1 ⟨rfl,hb⟩;have I1:=lh (I.out.to hb);clear hb I;obtain ⟨k0,hk0⟩:∃k0,x.k=k0:=⟨_,rfl⟩;rw [hk0] at HEd HOk HQ60 hxt;have HK0:=lh hk0;clear hk0;have HCt:=lh (fun (w:World) (q:LqI w2 w2.heap.size L x w)=>oS HK0.out HOk.out w q);have HTm:=lh (fun (w:World) (q:LqI w2 w2.heap.size L x w)=>zJ HK0.out w q);go_wp2_with fail;refine (HCt.out _ I1.out).mono ?_;rintro e u2 ⟨rfl,hb⟩;have I2:=lh (I1.out.to hb);clear hb I1 HCt;have C2:=lh (Blk.new u2 37 #[↑(LKS.told k0.came),↑k0.q.lost,↑k0.q.n,↑(LKS.told k0.served),↑(LKS.told (k0.served - k0.deliv)),↑(LKS.told k0.deliv)]);have I3:=lh (I2.out.to (aC u2 (.cells #[↑(LKS.told k0.came),↑k0.q.lost,↑k0.q.n,↑(LKS.told k0.served),↑(LKS.told (k0.served - k0.deliv)),↑(LKS.told k0.deliv)] 37)));clear I2;have pr:=(I3.out.bel.cell (p:=⟨W.heap.size + 1,0,none⟩) HPl.out).trans (HPb.out.cell (i:=0) (v:=↑r) rfl);have pb:=(I3.out.bel.cell (p:=⟨W.heap.size + 1,3,none⟩) HPl.out).trans (HPb.out.cell (i:=3) (v:=↑b0) rfl);obtain ⟨y,hy⟩:∃y,y=1000000 * b0:=⟨_,rfl⟩;have e1:(b0:Int) * 1000000=(y:Int):=by rw [hy,Int.mul_comm];rfl
     have e1w:IntKind.u64.wrap (y:Int)=(y:Int):=by rw [IntKind.wrap_u64];omega
     have e2:(y:Int) + (r:Int)=((y + r:Nat):Int):=by omega
     have e2w:IntKind.u64.wrap ((y + r:Nat):Int)=((y + r:Nat):Int):=by rw [IntKind.wrap_u64];omega
     have e3:((y + r:Nat):Int) - 1=((y + r - 1:Nat):Int):=by omega
     have e3w:IntKind.u64.wrap ((y + r - 1:Nat):Int)=((y + r - 1:Nat):Int):=by rw [IntKind.wrap_u64];omega
     have e4:((y + r - 1:Nat):Int) / (r:Int)=(Dq.full r b0:Int):=by rw [hy];rfl
     have e5:(r:Int)≠0:=by omega
     have e5':((r:Int) == 0)=false:=by simp;omega
     have e4w:IntKind.u64.wrap (Dq.full r b0:Int)=(Dq.full r b0:Int):=by rw [IntKind.wrap_u64];omega
     have hkt:k0.t + Dq.full r b0≤1073741824 * 60 + (1000000 * b0 + r):=by omega
     have hk1:=(HQ60.out.mono (T':=1073741824 * 60 + (1000000 * b0 + r)) (by omega) (Nat.le_refl _) |>.tick (now:=k0.t + Dq.full r b0) (by omega) hkt 0 []).t;have f1:(k0.t:Int) + (Dq.full r b0:Int)=((k0.t + Dq.full r b0:Nat):Int):=by omega
     have f1w:IntKind.u64.wrap ((k0.t + Dq.full r b0:Nat):Int)=((k0.t + Dq.full r b0:Nat):Int):=by rw [IntKind.wrap_u64];omega
     have HT1:=lh (fun (w:World) (q:LqI w2 w2.heap.size L x w)=>zK (now:=k0.t + Dq.full r b0) HK0.out HOk.out (Nat.le_add_right _ _) (by omega) w q);generalize hkk:k0.tick (k0.t + Dq.full r b0) 0 []=k1 at *;have e6:(k1.t:Int) + (d:Int)=((k1.t + d:Nat):Int):=by omega
     have e6w:IntKind.u64.wrap ((k1.t + d:Nat):Int)=((k1.t + d:Nat):Int):=by rw [IntKind.wrap_u64];omega
     have e7:((k1.t + d:Nat):Int) + (j:Int)=((k1.t + d + j:Nat):Int):=by omega
     have e7w:IntKind.u64.wrap ((k1.t + d + j:Nat):Int)=((k1.t + d + j:Nat):Int):=by rw [IntKind.wrap_u64];omega
     have HE6:=lh (show _∧_∧_∧_ from ⟨e6,e6w,e7,e7w⟩);have HT2:=lh (fun (w:World) (q:LqI w2 w2.heap.size L ⟨x.s,k1⟩ w)=>zK (k:=k1) (now:=k1.t + d + j) rfl (HEd.out.ok1.more (by omega)) (by omega) (by omega) w q);have HTn:=lh (fun (w:World) (q:LqI w2 w2.heap.size L ⟨x.s,k1⟩ w)=>zJ (k:=k1) rfl w q);have HC1:=lh (fun (w:World) (q:LqI w2 w2.heap.size L ⟨x.s,k1⟩ w)=>oS (k:=k1) rfl (HEd.out.ok1.more (by omega)) w q);have HC2:=lh (fun (sn:SN) (w:World) (q:LqI w2 w2.heap.size L ⟨sn,k1.tick (k1.t + d + j) 0 []⟩ w)=>oS (k:=k1.tick (k1.t + d + j) 0 []) rfl (HEd.out.ok2.more (by omega)) w q);have PD:=HPb.out.cell (i:=1) (v:=↑d) rfl;have PJ:=HPb.out.cell (i:=2) (v:=↑j) rfl;have HPD:=lh PD;have HPJ:=lh PJ;clear hy hfu hxt hkt hk1 hkk e6 e6w e7 e7w HQ60 HOk PD PJ hs hrr HPb;generalize y + r - 1=y3 at *;generalize y + r=y2 at *;generalize Dq.full r b0=fu at *;generalize k0.t + fu=now1 at *;generalize k1.tick (k1.t + d + j) 0 []=k2 at *;go_wp2_with fail;refine (HTm.out _ I3.out).mono ?_;rintro e u3 ⟨rfl,rfl⟩;clear e1 e1w e2 e2w e3 e3w e4 e4w e5 e5' pr pb HTm;go_wp2_with fail;refine (HT1.out _ I3.out).mono ?_;rintro e u4 ⟨v4,rfl,o4⟩;have M4:=lh (I3.out.lp o4);have C4:=lh (o4.kt _ (by decide) _ _ C2.out);clear o4 I3 C2 HT1 f1 f1w;go_wp2_with fail;refine (HC1.out _ M4.out).mono ?_;rintro e u5 ⟨rfl,hb⟩;have al5:=aC u5 (.cells #[↑(LKS.told k1.came),↑k1.q.lost,↑k1.q.n,↑(LKS.told k1.served),↑(LKS.told (k1.served - k1.deliv)),↑(LKS.told k1.deliv)] 37);have M7:Hid (TdI w2 w2.heap.size L ⟨x.s,k1⟩ u2.heap.size u5.heap.size #[↑(LKS.told k0.came),↑k0.q.lost,↑k0.q.n,↑(LKS.told k0.served),↑(LKS.told (k0.served - k0.deliv)),↑(LKS.told k0.deliv)] #[↑(LKS.told k1.came),↑k1.q.lost,↑k1.q.n,↑(LKS.told k1.served),↑(LKS.told (k1.served - k1.deliv)),↑(LKS.told k1.deliv)] (u5.alloc (.cells #[↑(LKS.told k1.came),↑k1.q.lost,↑k1.q.n,↑(LKS.told k1.served),↑(LKS.told (k1.served - k1.deliv)),↑(LKS.told k1.deliv)] 37))):=lh ⟨(M4.out.to hb).to al5,(C4.out.keep hb).keep al5,Blk.new u5 _ _⟩;clear hb M4 C4 al5 HC1;obtain ⟨e6,e6w,e7,e7w⟩:=HE6.out;generalize hx1:(⟨x.s,k1⟩:LN)=x1 at *;have HTm:=HTn;clear HTn;have pd:=TM (B:=w2.heap.size) (L:=L) (x:=x1) (n1:=u2.heap.size) (n2:=u5.heap.size) (c1:=#[↑(LKS.told k0.came),↑k0.q.lost,↑k0.q.n,↑(LKS.told k0.served),↑(LKS.told (k0.served - k0.deliv)),↑(LKS.told k0.deliv)]) (c2:=#[↑(LKS.told k1.came),↑k1.q.lost,↑k1.q.n,↑(LKS.told k1.served),↑(LKS.told (k1.served - k1.deliv)),↑(LKS.told k1.deliv)]) HPD.out HPl.out;have pj:=TM (B:=w2.heap.size) (L:=L) (x:=x1) (n1:=u2.heap.size) (n2:=u5.heap.size) (c1:=#[↑(LKS.told k0.came),↑k0.q.lost,↑k0.q.n,↑(LKS.told k0.served),↑(LKS.told (k0.served - k0.deliv)),↑(LKS.told k0.deliv)]) (c2:=#[↑(LKS.told k1.came),↑k1.q.lost,↑k1.q.n,↑(LKS.told k1.served),↑(LKS.told (k1.served - k1.deliv)),↑(LKS.told k1.deliv)]) HPJ.out HPl.out;go_wp2_with fail;generalize hu6:u5.alloc (.cells #[↑(LKS.told k1.came),↑k1.q.lost,↑k1.q.n,↑(LKS.told k1.served),↑(LKS.told (k1.served - k1.deliv)),↑(LKS.told k1.deliv)] 37)=u6 at *;clear hu6;replace M7:=lh (M7.out.to ((aB.drew u6).below _));generalize k1.t + d + j=now2 at *;generalize k1.t + d=now3 at *;refine aO (S:=(fun w'=>Hid (TdI w2 w2.heap.size L x1 u2.heap.size u5.heap.size #[↑(LKS.told k0.came),↑k0.q.lost,↑k0.q.n,↑(LKS.told k0.served),↑(LKS.told (k0.served - k0.deliv)),↑(LKS.told k0.deliv)] #[↑(LKS.told k1.came),↑k1.q.lost,↑k1.q.n,↑(LKS.told k1.served),↑(LKS.told (k1.served - k1.deliv)),↑(LKS.told k1.deliv)] w'))) 9 (by kernel_rfl) (by kernel_rfl) (by kernel_rfl) M7 ?_;generalize u6.drew=wd at *;simp only [List.size_toArray,List.length_cons,List.length_nil,Nat.reduceAdd,Array.replicate_succ,Array.replicate_zero,List.push_toArray,List.nil_append,List.cons_append];refine ckc 0 ?_;refine ckc 1 ?_;refine ckl 2 (fun w hS=>(HTm.out w hS.out.q).mono fun e w' q=>And.intro q.1 (q.2▸hS)) ?_;refine ckc 3 ?_;refine cks 4 ?_;refine ckc 5 ?_;refine ckc 6 ?_;refine cks 7 ?_;refine ckc 8 ?_;refine bJ.last (by kernel_rfl) (fun w hSw=>?_);refine rdy [9] ?_;refine cns (fun K hK=>?_) .nil;go_simp;refine (HT2.out _ hSw.out.q).mono ?_;rintro e u7 ⟨v7,rfl,o7⟩;have M8:=lh (hSw.out.lp o7);clear hSw M7 HT2 HTm pd pj o7;go_wp2_with fail;refine bck hK trivial (fun _=>?_);clear hK;refine tkc 10 ?_ trivial;refine tkc 11 ?_ trivial;refine tkc 12 ?_ trivial;refine tkc 13 ?_ trivial;refine tkc 14 ?_ trivial;refine wpAnyH_done (by kernel_rfl) ?_ _;skip;clear e6 e6w e7 e7w;go_wp2_with fail;refine (HC2.out _ _ M8.out.q).mono ?_;rintro e u8 ⟨rfl,hb⟩;have al8:=aC u8 (.cells #[↑(LKS.told k2.came),↑k2.q.lost,↑k2.q.n,↑(LKS.told k2.served),↑(LKS.told (k2.served - k2.deliv)),↑(LKS.told k2.deliv)] 37);have M9:=lh ((M8.out.to hb).to al8);have E9:=lh (Blk.new u8 37 #[↑(LKS.told k2.came),↑k2.q.lost,↑k2.q.n,↑(LKS.told k2.served),↑(LKS.told (k2.served - k2.deliv)),↑(LKS.told k2.deliv)]);clear hb M8 al8 HC2;go_wp2_with fail;generalize hu9:u8.alloc (.cells #[↑(LKS.told k2.came),↑k2.q.lost,↑k2.q.n,↑(LKS.told k2.served),↑(LKS.told (k2.served - k2.deliv)),↑(LKS.told k2.deliv)] 37)=u9 at *;clear hu9;refine (HA.out _ (HG.out.keep (aD HBe.out M9.out.q.bel HBe.out.size))).mono ?_;rintro e z1 ⟨rfl,hb⟩;have Z:=lh (M9.out.to hb);have c2:=Z.out.a.cell (i:=2) (v:=↑k0.q.n) rfl;have c3:=Z.out.a.cell (i:=3) (v:=↑(LKS.told k0.served)) rfl;have d3:=Z.out.b.cell (i:=3) (v:=↑(LKS.told k1.served)) rfl;have e5:=(E9.out.keep hb).cell (i:=5) (v:=↑(LKS.told k2.deliv)) rfl;obtain ⟨s1,s2,s3,s4,s5,_,_⟩:=HEd.out;have g2:(LKS.told k0.served:Int) + (k0.q.n:Int)=((LKS.told k0.served + k0.q.n:Nat):Int):=by omega
     have g3:IntKind.u64.wrap ((LKS.told k0.served + k0.q.n:Nat):Int)=((LKS.told k0.served + k0.q.n:Nat):Int):=by rw [IntKind.wrap_u64];unfold LKS.told;omega
     have g4:decide (LKS.told k0.served + k0.q.n≤LKS.told k1.served)=true:=decide_eq_true (by unfold LKS.told;omega);have g4':decide (((LKS.told k0.served + k0.q.n:Nat):Int)≤(LKS.told k1.served:Int))=true:=decide_eq_true (by unfold LKS.told;omega);have g5:decide (LKS.told k0.served + k0.q.n≤LKS.told k2.deliv)=true:=decide_eq_true (by unfold LKS.told;omega);have g5':decide (((LKS.told k0.served + k0.q.n:Nat):Int)≤(LKS.told k2.deliv:Int))=true:=decide_eq_true (by unfold LKS.told;omega);clear s1 s2 s3 s4 s5 hb M9 E9 HEd;generalize LKS.told k0.served + k0.q.n=sq at *;go_wp2_with fail;go_ret;exact ⟨rfl,aD HBe.out Z.out.q.bel HBe.out.size⟩
theorem TopDelay_walk (v:Option Addr) (len cap:Nat) (c:Setup) (r d j b0:Nat) (l:List StV) (b off:Nat) (W:World) (hc:∀i,c i≤↑ω) (hpth:r≤↑ω∧d≤↑ω∧j≤↑ω∧b0≤↑ω) (h:l.length=len∧iM W v l b off) (hg:Gl W):
  Calls prog 7 #[.agg (aK c),.agg #[↑r,↑d,↑j,↑b0],.slice v len cap] W fun e w'=>e=.returned (.bool true)∧Below ↑W W w':=by
 obtain ⟨rfl,h⟩:=h;cases hr:rightC c with
 | false=>exact iI.1 v cap b off l c r d j b0 W hg h (.inl hr)
 | true=>
   cases hp:cQ r d j b0 with
   | false=>exact iI.1 v cap b off l c r d j b0 W hg h (.inr (.inl hp))
   | true=>
     by_cases hs:l.length≤60∧r≤1048576∧b0≤1073741824∧d≤1073741824∧j≤1073741824
     ·exact iI.2 v cap b off l c r d j b0 hc W hg h hr hp hs
     ·exact iI.1 v cap b off l c r d j b0 W hg h (.inr (.inr hs))
end Go.Proofs.YtjhiooggnpbecaaGreatDoor
