/- Lemmas. -/
import Derived.Test.YtjhiooggnpbecaaGreatDoorK445
set_option linter.unusedVariables false
set_option maxHeartbeats 1000000
set_option maxRecDepth 100000
namespace Go.Proofs.YtjhiooggnpbecaaGreatDoor
open Tryz
open Go.RowKit
variable {s:LKS} {p:LP} {g i z:Nat} {W w w':World}
theorem LI.call {s':LKS} {r:Value} {e:Ending} (h:LI W p s w) (h1:cY w (p.at_ g i) s) (h2:(g=p.qg∨W.heap.size≤g)∧(i=p.jg∨W.heap.size≤i)) (k:D8 w (p.at_ g i) r s' e w'):LI W p s' w':=h.trans h1 h2 k.li
theorem LI.apart (h:LI W p s w) {ao:Option Addr} (ha:fY ao p.l) (hb:∀a,ao=some a→a.block < W.heap.size) (h2:(g=p.qg∨W.heap.size≤g)∧(i=p.jg∨W.heap.size≤i)):fY ao (p.at_ g i).l:=fun a e hm=>by
 have h3:=ha a e;have h4:=hb a e;simp only [LP.l,LP.at_,List.mem_cons,List.not_mem_nil,or_false,not_or] at h3 hm;obtain ⟨a1,a2,a3,a4,a5,a6,a7,a8⟩:=h3;rcases hm with c | c | c | c | c | c | c | c
 ·exact a1 c
 ·exact a2 c
 ·exact a3 c
 ·exact a4 c
 ·rcases h2.1 with d | d
  ·exact a5 (c.trans d)
  ·exact Nat.lt_irrefl _ (Nat.lt_of_lt_of_le (c▸h4) d)
 ·exact a6 c
 ·exact a7 c
 ·rcases h2.2 with d | d
  ·exact a8 (c.trans d)
  ·exact Nat.lt_irrefl _ (Nat.lt_of_lt_of_le (c▸h4) d)
theorem QX (W:World) (p:LP) (s:LKS) (now:Nat) (ho:s.k.ok) (hn:now≤↑ω) (w:World) (h:LI W p s w):
  Calls prog 72 #[↑(π p.kb),↑now] w fun e w'=>e=.returned (.tuple #[])∧Hid (LI W p (s.withK (s.k.toS now)) w'):=by
 obtain ⟨g,i,h1,h2⟩:=h.at_;exact (PQ p.kb now s.k w h1.k ho hn).mono fun e w' k=>⟨k.e,lh (h.k k)⟩
theorem GW (W:World) (p:LP) (s:LKS) (x:Nat) (ho:s.k.ok) (hx:x≤↑ω) (w:World) (h:LI W p s w):
  Calls prog 75 #[↑(π p.kb),↑x] w fun e w'=>e=.returned ↑(s.k.wasteN x)∧Hid (LI W p (s.withK (s.k.wasteS x)) w'):=by
 obtain ⟨g,i,h1,h2⟩:=h.at_;exact (CU p.kb x s.k w h1.k ho hx).mono fun e w' k=>⟨k.e,lh (h.k k)⟩
structure QY (W:World) (p:LP) (ao:Option Addr) (cs:List Nat) (cap:Nat):Prop where
 nus:Nus W ao cs
 ap:0 < cs.length→fY ao p.l
 lt:0 < cs.length→∀a,ao=some a→a.block < W.heap.size
 mx:∀c∈cs,c≤↑ω
 len:cs.length≤cap
 big:cap≤9223372036854775807
theorem GX (W:World) (p:LP) (s:LKS) (cs:List Nat) (ao:Option Addr) (cap:Nat) (ho:s.ok 5500) (ha:QY W p ao cs cap) (w:World) (h:LI W p s w):
  Calls prog 73 #[↑(π p.b),.slice ao cs.length cap] w fun e w'=>e=.returned (.tuple #[])∧Hid (LI W p (s.serve cs) w'):=by
 obtain ⟨g,i,h1,h2⟩:=h.at_;exact (GV (p.at_ g i) s cs ao cap w h1 ho (ha.nus.frl h.fr ha.ap) (fun hp=>h.apart (ha.ap hp) (ha.lt hp) h2) ha.mx ha.len ha.big).mono fun e w' k=>⟨k.e,lh (h.call h1 h2 k)⟩
theorem vS (W:World) (p:LP) (s:LKS) (ho:s.ok 5500) (w:World) (h:LI W p s w):
  Calls prog 76 #[↑(π p.b)] w fun e w'=>∃v,e=.returned v∧Hid (bQ 73 W.heap.size w' v s.out)∧Hid (LI W p s.deliver w'):=by
 obtain ⟨g,i,h1,h2⟩:=h.at_;refine (vP (p.at_ g i) s 5500 w h1 ho (Nat.le_refl _)).mono fun e w' k=>?_;obtain ⟨v,he,hv⟩:=k.e;exact ⟨v,he,lh (hv.weak h.fr.size),lh (h.trans h1 h2 k.li)⟩
theorem A3 (h:s.q.someQ=true) (x:Nat):s.wasteL x=s:=by unfold LKS.wasteL;rw [if_pos h]
theorem tL (s:LKS) (x:Nat):s.wasteK x=s.withK (s.k.wasteS x):=rfl
theorem vT (h:s.q.someQ=false) (x:Nat):s.wasteL x=s.withK (s.k.wasteS x):=by unfold LKS.wasteL;rw [if_neg (by simp [h])];exact tL s x
theorem GY (s:LKS) (n:Nat):s.toT n=(s.withK (s.k.toS n)).withT n:=rfl
theorem QZ (s:LKS) (t:Nat) (p:LP):(s.cells p).setIfInBounds 7 ↑t=(s.withT t).cells p:=rfl
structure SQ (W:World) (p:LP) (l:List Pk) (s:LKS) (e:Ending) (w:World):Prop where
 e:∃v,e=.returned (.tuple #[v,.int .i64 0])∧bQ 73 W.heap.size w v l
 li:LI W p s w
theorem LV (p:LP) (s:LKS) (now waste:Nat) (cs:List Nat) (ao:Option Addr) (cap:Nat) (W:World) (h:cY W p s) (ho:s.ok 5500) (hn:s.t≤now) (hm:now≤↑ω) (hw:waste≤↑ω) (ha:QY W p ao cs cap):
  Calls prog 32 #[↑(π p.b),↑now,↑waste,.slice ao cs.length cap] W (SQ W p (s.tickOut now waste cs) (s.tick now waste cs)):=by
 have c7:=h.head.cell (i:=7) (v:=↑s.t) rfl;have d:decide (now < s.t)=false:=decide_eq_false (by omega);have M0:=lh (LI.start h);have c4:=M0.out.kp.1;have HT:=lh (QX W p s now ho.k hm);have HO1:=lh (ho.toT hm);have HO2:=lh (HO1.out.serve cs);have HO3:=lh (HO2.out.waste waste);have HS:=lh (GX W p (s.toT now) cs ao cap HO1.out ha);have HH:=lh (xX W p ((s.toT now).serve cs));have HW:=lh (GW W p ((s.toT now).serve cs) waste HO2.out.k hw);have HD:=lh (vS W p (((s.toT now).serve cs).wasteL waste) HO3.out);have ET:Hid ((s.withK (s.k.toS now)).withT now=s.toT now):=lh (GY s now).symm;have EL:Hid (s.tickOut now waste cs=(((s.toT now).serve cs).wasteL waste).out∧s.tick now waste cs=(((s.toT now).serve cs).wasteL waste).deliver):=lh ⟨rfl,rfl⟩;have EN:=lh (fun h=>A3 (s:=(s.toT now).serve cs) h waste);have EY:=lh (fun h=>vT (s:=(s.toT now).serve cs) h waste);clear h ho hn hm hw ha HO1 HO2 HO3;rw [EL.out.1,EL.out.2];clear EL;go_enter func32,ntmps32;go_wp2_with fail;refine (HT.out _ M0.out).mono ?_;rintro e w1 ⟨rfl,M1⟩;clear M0 c4 c7 d HT;generalize s.k.toS now=k1 at *;have g7:=M1.out.cell (i:=7) (v:=↑s.t) (fun _=>rfl);have f7:=M1.out.free 7;have M2:Hid (LI W p (s.toT now) (w1.setCell ⟨p.b,7,none⟩ ↑now)):=lh (ET.out▸M1.out.set 7 _ (QZ _ _ _) ⟨rfl,rfl,rfl⟩);clear M1 ET;generalize s.toT now=s2 at *;go_wp2_with fail;refine (HS.out _ M2.out).mono ?_;rintro e w3 ⟨rfl,M3⟩;clear M2 g7 f7 HS;generalize s2.serve cs=s3 at *;have c5:=M3.out.kp.2.1;go_wp2_with fail;refine (HH.out _ M3.out).mono ?_;rintro e w4 ⟨rfl,hb⟩;have M4:=lh (M3.out.to hb);clear hb M3 c5 HH;unfold cN Pk.agg;generalize s3.q.headQ=x at *;cases hq:s3.q.someQ with
 | true=>
   have M5:=lh (M4.out.al (.cells #[↑x.n,↑x.size,↑x.sent,↑x.first,↑x.deliv,↑x.at_,.bool x.lim] 73));have E3:=lh (EN.out hq);rw [E3.out] at HD;clear M4 hq EN EY HW;go_wp2_with fail;refine (HD.out _ M5.out).mono ?_;rintro e w6 ⟨v,rfl,V6,M6⟩;go_wp2_with fail;go_ret2
   exact ⟨⟨v,rfl,by rw [E3.out];exact V6.out⟩,by rw [E3.out];exact M6.out⟩
 | false=>
   have M5:=lh (M4.out.al (.cells #[↑x.n,↑x.size,↑x.sent,↑x.first,↑x.deliv,↑x.at_,.bool x.lim] 73));have c4:=M5.out.kp.1;have E3:=lh (EY.out hq);rw [E3.out] at HD;clear M4 hq EN EY;go_wp2_with fail;refine (HW.out _ M5.out).mono ?_;rintro e w6 ⟨rfl,M6⟩;clear M5 c4 HW;generalize s3.withK (s3.k.wasteS waste)=s4 at *;go_wp2_with fail;refine (HD.out _ M6.out).mono ?_;rintro e w7 ⟨v,rfl,V7,M7⟩;go_wp2_with fail;go_ret2
   exact ⟨⟨v,rfl,by rw [E3.out];exact V7.out⟩,by rw [E3.out];exact M7.out⟩
def fT (r d j b:Nat):Bool:=decide (1≤r) && (decide (r≤1099511627776) && (decide (d≤4398046511104) && (decide (j≤4398046511104) && (decide (1≤b) && decide (b≤72057594037927936)))))
theorem nN:(∀(r d j b:Nat) (W:World),Calls prog 77 #[.agg #[↑r,↑d,↑j,↑b]] W fun e w'=>e=.returned (.bool (fT r d j b))∧Below ↑W W w')∧(∀(r d j b:Nat) (W:World),Calls prog 10 #[.agg #[↑r,↑d,↑j,↑b]] W fun e w'=>e=.returned (.bool (fT r d j b))∧Below ↑W W w'):=by
 refine ⟨?_,?_⟩
 have k0v:Hid True:=trivial;rotate_left;rotate_left
 all_goals intro r d j b W
 all_goals
  unfold fT;obtain ⟨q0,hq0⟩:∃q,q=decide (1≤r):=⟨_,rfl⟩;have g0:decide ((1:Int)≤(r:Int))=q0:=by rw [hq0];apply decide_eq_decide.2;omega
  obtain ⟨q1,hq1⟩:∃q,q=decide (r≤1099511627776):=⟨_,rfl⟩;have g1:decide ((r:Int)≤(1099511627776:Int))=q1:=by rw [hq1];apply decide_eq_decide.2;omega
  obtain ⟨q2,hq2⟩:∃q,q=decide (d≤4398046511104):=⟨_,rfl⟩;have g2:decide ((d:Int)≤(4398046511104:Int))=q2:=by rw [hq2];apply decide_eq_decide.2;omega
  obtain ⟨q3,hq3⟩:∃q,q=decide (j≤4398046511104):=⟨_,rfl⟩;have g3:decide ((j:Int)≤(4398046511104:Int))=q3:=by rw [hq3];apply decide_eq_decide.2;omega
  obtain ⟨q4,hq4⟩:∃q,q=decide (1≤b):=⟨_,rfl⟩;have g4:decide ((1:Int)≤(b:Int))=q4:=by rw [hq4];apply decide_eq_decide.2;omega
  obtain ⟨q5,hq5⟩:∃q,q=decide (b≤72057594037927936):=⟨_,rfl⟩;have g5:decide ((b:Int)≤(72057594037927936:Int))=q5:=by rw [hq5];apply decide_eq_decide.2;omega
  rw [← hq0,← hq1,← hq2,← hq3,← hq4,← hq5];replace hq0:=hq0.symm;replace hq1:=hq1.symm;replace hq2:=hq2.symm;replace hq3:=hq3.symm;replace hq4:=hq4.symm;replace hq5:=hq5.symm;cases q0 with
  | false=>
   first
   |revert k0v;intro k0v;go_enter func77,ntmps77;go_wp2;go_ret;exact ⟨rfl,aC _ _⟩
   |go_enter func10,ntmps10;go_wp2;go_ret;exact ⟨rfl,aC _ _⟩
  | true=>
   cases q1 with
   | false=>
    first
    |revert k0v;intro k0v;go_enter func77,ntmps77;go_wp2;go_ret;exact ⟨rfl,aC _ _⟩
    |go_enter func10,ntmps10;go_wp2;go_ret;exact ⟨rfl,aC _ _⟩
   | true=>
    cases q2 with
    | false=>
     first
     |revert k0v;intro k0v;go_enter func77,ntmps77;go_wp2;go_ret;exact ⟨rfl,aC _ _⟩
     |go_enter func10,ntmps10;go_wp2;go_ret;exact ⟨rfl,aC _ _⟩
    | true=>
     cases q3 with
     | false=>
      first
      |revert k0v;intro k0v;go_enter func77,ntmps77;go_wp2;go_ret;exact ⟨rfl,aC _ _⟩
      |go_enter func10,ntmps10;go_wp2;go_ret;exact ⟨rfl,aC _ _⟩
     | true=>
      cases q4 with
      | false=>
       first
       |revert k0v;intro k0v;go_enter func77,ntmps77;go_wp2;go_ret;exact ⟨rfl,aC _ _⟩
       |go_enter func10,ntmps10;go_wp2;go_ret;exact ⟨rfl,aC _ _⟩
      | true=>
       cases q5 with
       | false=>
        first
        |revert k0v;intro k0v;go_enter func77,ntmps77;go_wp2;go_ret;exact ⟨rfl,aC _ _⟩
        |go_enter func10,ntmps10;go_wp2;go_ret;exact ⟨rfl,aC _ _⟩
       | true=>
        first
        |revert k0v;intro k0v;go_enter func77,ntmps77;go_wp2;go_ret;exact ⟨rfl,aC _ _⟩
        |go_enter func10,ntmps10;go_wp2;go_ret;exact ⟨rfl,aC _ _⟩
structure Q5 (W:World) (s:LKS) (e:Ending) (w:World):Prop where
 at_:∃p,e=.returned (.tuple #[↑(π p.b),.int .i64 0])∧cY w p s∧∀x∈p.l,↑W≤x
 bel:Below ↑W W w
structure NwI (W:World) (z:Nat) (cs:Array Value) (w:World):Prop where
 blk:Blk w z 26 cs
 bel:Below ↑W W w
theorem NwI.to {cs:Array Value} (h:NwI W z cs w) (k:Below ↑w w w'):NwI W z cs w':=⟨h.blk.keep k,aD h.bel k h.bel.size⟩
theorem SR {r d j b:Nat}:(∀w,Hid (NwI W z #[↑r,↑d,↑j,↑b] w)→w.cell? ⟨z,0,none⟩=some ↑r)∧(∀w,Hid (NwI W z #[↑r,↑d,↑j,↑b] w)→w.cell? ⟨z,1,none⟩=some ↑d)∧(∀w,Hid (NwI W z #[↑r,↑d,↑j,↑b] w)→w.cell? ⟨z,2,none⟩=some ↑j)∧(∀w,Hid (NwI W z #[↑r,↑d,↑j,↑b] w)→w.cell? ⟨z,3,none⟩=some ↑b):=
 ⟨fun w h=>h.out.blk.cell rfl,fun w h=>h.out.blk.cell rfl,fun w h=>h.out.blk.cell rfl,fun w h=>h.out.blk.cell rfl⟩
theorem tM (r d j b x kb qb qr qg jb jr jg:Nat):(LKS.start r d j b).cells ⟨x,kb,qb,qr,qg,jb,jr,jg⟩=#[↑r,↑d,↑j,↑b,↑(π kb),↑(π qb),↑(π jb),↑ζ,↑ζ,↑ζ,↑ζ,↑ζ,↑ζ,↑ζ]:=by simp [LKS.cells,LKS.start,LKS.hi,LKS.lo]
theorem PC (r:Nat) (W:World):Calls prog 78 #[↑r] W fun e w'=>∃kb,e=.returned ↑(π kb)∧Blk w' kb 217 (KB.start r).cells∧↑W≤kb∧Below ↑W W w':=
 (NP r W).mono fun e w' q=>⟨W.heap.size,q.1,q.2▸Blk.new _ _ _,Nat.le_refl _,q.2▸aC _ _⟩
theorem PD (r d j b:Nat) (W:World) (h:fT r d j b=true):Calls prog 36 #[.agg #[↑r,↑d,↑j,↑b]] W (Q5 W (LKS.start r d j b)):=by
 have HR:=lh (nN.1 r d j b);rw [h] at HR;have HK:=lh (PC r);have HQ:=lh (OF b);have HJ:=lh (OJ d j);have I0:Hid (NwI W W.heap.size #[↑r,↑d,↑j,↑b] (W.alloc (.cells #[↑r,↑d,↑j,↑b] 26))):=lh ⟨Blk.new _ _ _,aC _ _⟩;obtain ⟨r0,r1,r2,r3⟩:=SR (W:=W) (z:=W.heap.size) (r:=r) (d:=d) (j:=j) (b:=b);have c0:=r0 _ I0;have c1:=r1 _ I0;have c2:=r2 _ I0;have c3:=r3 _ I0;clear h;go_enter func36,ntmps36;go_wp2_with fail;refine (HR.out _).mono ?_;rintro e w0 ⟨rfl,hb⟩;have M0:=lh ((I0.out.to hb).to ((aB.drew _).below _));clear hb HR I0 c0 c1 c2 c3;go_wp2_with fail;refine rhd (S:=(fun w'=>Hid (NwI W W.heap.size #[↑r,↑d,↑j,↑b] w'))) M0 (fun hHeld=>?_);generalize w0.drew=wd at *;refine tks 0 ?_;refine tkc 1 ?_;refine tks 2 ?_;refine tkc 4 ?_;refine tks 5 ?_;refine tkc 7 ?_;refine tks 8 ?_;refine tkc 9 ?_;refine tks 10 ?_;refine rdy [3] ?_;refine cns (fun K hK=>?_) .nil;go_simp;refine (HK.out _).mono ?_;rintro e w1 ⟨kb,rfl,k1,k2,k3⟩;have L1:=lh (Nat.le_trans (Hid.out (by assumption):NwI W W.heap.size #[↑r,↑d,↑j,↑b] _).bel.size k2);have N1:=lh ((Hid.out (by assumption):NwI W W.heap.size #[↑r,↑d,↑j,↑b] _).to k3);have B1:=lh k1;clear k1 k2 k3;go_wp2_with fail;refine bck hK N1 (fun hHeld=>?_);clear hK;refine rdy [6] ?_;refine cns (fun K hK=>?_) .nil;go_simp;refine (HQ.out _).mono ?_;rintro e w2 ⟨⟨qb,qr,qg,rfl,k1,k2,k3,k4⟩,k5⟩;have sz:=(Hid.out (by assumption):NwI W W.heap.size #[↑r,↑d,↑j,↑b] _).bel.size;have N2:=lh ((Hid.out (by assumption):NwI W W.heap.size #[↑r,↑d,↑j,↑b] _).to k5);have L2:=lh (And.intro (Nat.le_trans sz k2) (And.intro (Nat.le_trans sz k3) (Nat.le_trans sz k4)));have B2:=lh (B1.out.keep k5);have Q2:=lh k1;clear k1 k2 k3 k4 k5 sz B1;go_wp2_with fail;refine bck hK N2 (fun hHeld=>?_);clear hK;refine rdy [11] ?_;refine cns (fun K hK=>?_) .nil;go_simp;refine (HJ.out _).mono ?_;rintro e w3 ⟨⟨jb,jr,jg,rfl,k1,k2,k3,k4⟩,k5⟩;have sz:=(Hid.out (by assumption):NwI W W.heap.size #[↑r,↑d,↑j,↑b] _).bel.size;have N3:=lh ((Hid.out (by assumption):NwI W W.heap.size #[↑r,↑d,↑j,↑b] _).to k5);have L3:=lh (And.intro (Nat.le_trans sz k2) (And.intro (Nat.le_trans sz k3) (Nat.le_trans sz k4)));have B3:=lh (B2.out.keep k5);have Q3:=lh (Q2.out.keep k5);have J3:=lh k1;clear k1 k2 k3 k4 k5 sz B2 Q2;go_wp2_with fail;refine bck hK N3 (fun hHeld=>?_);clear hK;refine tkc 12 ?_;refine rdy [13] ?_;refine cns (fun K hK=>?_) .nil;have N4:=lh ((Hid.out (by assumption):NwI W W.heap.size #[↑r,↑d,↑j,↑b] _).to (aC _ (.cells #[↑r,↑d,↑j,↑b,↑(π kb),↑(π qb),↑(π jb),↑ζ,↑ζ,↑ζ,↑ζ,↑ζ,↑ζ,↑ζ] 91)));go_simp;refine bck hK N4 (fun hHeld=>?_);clear hK;refine tkc 14 ?_;refine tkc 15 ?_;refine wpAnyH_done (by kernel_rfl) ?_ _;clear hHeld;go_wp2_with fail;go_ret2
 have sz:=N3.out.bel.size;refine ⟨⟨⟨w3.heap.size,kb,qb,qr,qg,jb,jr,jg⟩,rfl,⟨by rw [tM];exact Blk.new _ _ _,B3.out.keep (aC _ _),Q3.out.keep (aC _ _),J3.out.keep (aC _ _)⟩,?_⟩,N4.out.bel⟩;intro x hx;have l1:=L1.out;have l2:=L2.out;have l3:=L3.out;simp only [LP.l,List.mem_cons,List.not_mem_nil,or_false] at hx;rcases hx with rfl | rfl | rfl | rfl | rfl | rfl | rfl | rfl
 exact sz;exact l1;exact l2.1;exact l2.2.1;exact l2.2.2;exact l3.1;exact l3.2.1;exact l3.2.2

end Go.Proofs.YtjhiooggnpbecaaGreatDoor
