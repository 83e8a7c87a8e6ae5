/- Lemmas. -/
import Derived.Test.YtjhiooggnpbecaaGreatDoorK438
set_option linter.unusedVariables false
set_option maxHeartbeats 2000000
namespace Go.Proofs.YtjhiooggnpbecaaGreatDoor
open Tryz
open Go.RowKit Cf
variable {c:Setup} {W w w':World}
theorem xQ (n:Int) (a:Int):((n == a)=true∧n=a)∨((n == a)=false∧n≠a):=by
 by_cases h:n=a
 ·exact Or.inl ⟨beq_iff_eq.2 h,h⟩
 ·exact Or.inr ⟨beq_eq_false_iff_ne.2 h,h⟩
theorem QU {B:Own} {k:Nat} {P:EP} {s:ES} (x:EvS) (hx:x.ok) (W:World) (h:aG W B P s) (ho:s.ok k) (hk:k≤900):
  Calls prog 120 #[↑(π P.b),x.val] W (aZ B P (.returned (.tuple #[])) (s.on x) W):=by
 have o1:=ES.count_ok ho x;have o2:=ES.mea_ok o1 hx hk;have o3:=ES.e3_ok ho hx hk;have o4:=ES.e4_ok ho hx hk;have o5:=ES.e5_ok ho hx hk;have o6:=ES.e6_ok ho hx hk;have o7:=ES.e7_ok ho hx hk;have HCo:=fun w h=>EO (B:=B) (P:=P) (s:=s) x hx w h ho;have HMe:=fun w h=>vA (B:=B) (P:=P) x hx w h o1 hk;have HSe:=fun w h=>zR (B:=B) (P:=P) (s:=(s.count x).mea x) w h o2;have HBe:=fun w (h:aG w B P (s.e3 x))=>l6 P.y (s.e3 x).y w h.y;have HPu:∀ov sl w,aG w B P (s.e3 x)→Calls prog 172 #[↑(π P.p),↑((s.e3 x).y.best),.bool ov,.bool sl] w fun e w'=>e=.returned (.tuple #[])∧aY w B P ((s.e3 x).pput ov sl) w':=fun ov sl w h=>
  (NN P.p (s.e3 x).y.best ov sl (s.e3 x).p w h.p o3.p (CY.best_le o3.ya o3.yt)).mono fun e w' q=>⟨q.1,aY.pi h q.2.1 q.2.2⟩
 have HYi:=fun w h=>EZ (B:=B) (P:=P) (s:=s.e4 x) x hx w h o4;have HSi:=fun ov lo w h=>AQ (B:=B) (P:=P) (s:=s.e5 x) x hx ov lo w h o5;have HNe:=fun ov lo w=>JX (s.e5 x).st ((s.e5 x).sig x ov lo) (ES.sig_ok o5 hx ov lo) w;have HTu:=fun t w h=>KC (B:=B) (P:=P) (s:=s.e5 x) x.now t w h o5;have HPs:=fun w=>IX (s.e6 x).bs x.ac w o6.bs hx.ac;have HOp:=fun w h=>LA (B:=B) (P:=P) (s:=s.e7 x) x.ac hx.ac w h o7;have e7:s.el x=false→(((s.e6 x).st == 5)=true∧s.e7 x={s.e6 x with bs:=(s.e6 x).bs.push x.ac})∨(((s.e6 x).st == 5)=false∧s.e7 x=s.e6 x):=fun hl=>by
  rcases xQ (s.e6 x).st 5 with ⟨a,b⟩ | ⟨a,b⟩
  ·exact Or.inl ⟨a,by unfold ES.e7;rw [if_pos ⟨b,hl⟩];rfl⟩
  ·exact Or.inr ⟨a,by unfold ES.e7;rw [if_neg (fun q=>b q.1)]⟩
 have e7':s.el x=true→(((s.e6 x).st == 5)=true∧s.e7 x=s.e6 x)∨(((s.e6 x).st == 5)=false∧s.e7 x=s.e6 x):=fun hl=>by
  have:s.e7 x=s.e6 x:=by unfold ES.e7;rw [if_neg (fun q=>by rw [hl] at q;exact absurd q.2 (by simp))]
  rcases xQ (s.e6 x).st 5 with ⟨a,b⟩ | ⟨a,b⟩
  ·exact Or.inl ⟨a,this⟩
  ·exact Or.inr ⟨a,this⟩
 have e3n:s.eo x=false→(s.count x).mea x=s.e3 x:=fun q=>by
  have q':(s.count x).over x=false:=q;unfold ES.e3;rw [q'];rfl
 have e3y:s.eo x=true→((s.count x).mea x).settle=s.e3 x:=fun q=>by
  have q':(s.count x).over x=true:=q;unfold ES.e3;rw [if_pos q']
 have e4n:x.sm=false→s.e3 x=s.e4 x:=fun q=>by unfold ES.e4;rw [q];rfl
 have e4y:x.sm=true→(s.e3 x).pput (s.eo x) x.sl=s.e4 x:=fun q=>by unfold ES.e4;rw [if_pos q]
 have e5n:s.el x=false→s.e4 x=s.e5 x:=fun q=>by unfold ES.e5;rw [q];rfl
 have e5y:s.el x=true→(s.e4 x).yield x=s.e5 x:=fun q=>by unfold ES.e5;rw [if_pos q]
 have e6:∀ov lo,s.eo x=ov→s.el x=lo→(s.e5 x).turn x.now (fG (s.e5 x).st ((s.e5 x).sig x ov lo))=s.e6 x:=fun ov lo a b=>by unfold ES.e6;rw [a,b]
 have hel:s.el x=(s.eo x && ((s.count x).mea x).lossy):=rfl;have hov:s.eo x=(x.sm && (s.count x).n.ackB (Pl.subS x.dl x.sd)):=rfl;have hme:(s.count x).over x=s.eo x:=rfl;rw [hme] at HMe;clear hme;show Calls prog 120 #[↑(π P.b),x.val] W (aZ B P (.returned (.tuple #[])) {s.e7 x with cwnd:=(s.e7 x).open x.ac} W)
 generalize heo:s.eo x=ov at *;generalize hlo:s.el x=lo at *;generalize hll:((s.count x).mea x).lossy=ll at *;clear heo hlo hll o1 o2 o3 o4 o5 o6 o7;generalize (s.count x).mea x=s2 at *;generalize s.count x=s1 at *;generalize s.e3 x=s3 at *;generalize s.e4 x=s4 at *;generalize s.e5 x=s5 at *;generalize s.e6 x=s6 at *;generalize s.e7 x=s7 at *;obtain ⟨now,sd,si,sr,rt,sl,sm,dl,ac,lo',fl⟩:=x;cases sm with
 | false=>
   obtain rfl:ov=false:=hov;obtain rfl:lo=false:=by rw [hel];rfl
   obtain rfl:=e3n rfl;obtain rfl:=e4n rfl;obtain rfl:=e5n rfl;have q6:=e6 false false rfl rfl;exact gW.1 (best:=0) (s3:=s2) (s4:=s2) (s5:=s2) W h HCo HMe (HSi false false) (HNe false false) (fun w h=>q6▸HTu _ w h) HPs HOp (e7 rfl)
 | true=>
   cases ov with
   | false=>
     obtain rfl:lo=false:=by rw [hel];rfl
     obtain rfl:=e3n rfl;obtain rfl:=e4y rfl;obtain rfl:=e5n rfl;have q6:=e6 false false rfl rfl;exact gW.2.1 (s3:=s2) (s5:=s2) W h HCo HMe HBe (HPu false sl) (HSi false false) (HNe false false) (fun w h=>q6▸HTu _ w h) HPs HOp (e7 rfl)
   | true=>
     obtain rfl:lo=ll:=by rw [hel];rfl
     obtain rfl:=e3y rfl;obtain rfl:=e4y rfl;cases lo with
     | false=>
       obtain rfl:=e5n rfl;have q6:=e6 true false rfl rfl;exact gW.2.2.1 (s5:=s2) W h HCo HMe HSe HBe (HPu true sl) (HSi true false) (HNe true false) (fun w h=>q6▸HTu _ w h) HPs HOp (e7 rfl)
     | true=>
       obtain rfl:=e5y rfl;have q6:=e6 true true rfl rfl;exact gW.2.2.2 (bs7:=s6.bs.push ac) W h HCo HMe HSe HBe (HPu true sl) HYi (HSi true true) (HNe true true) (fun w h=>q6▸HTu _ w h) HPs HOp (e7' rfl)
structure LB (W:World) (c:Setup) (e:Ending) (w:World):Prop where
 at_:∃P:EP,e=.returned (.tuple #[↑(π P.b),.int .i64 0])∧aG w (Own.at_ W.heap.size) P (ES.new c)
 bel:Below ↑W W w
structure tG (W:World) (c:Setup) (w:World):Prop where
 b:Blk w W.heap.size 24 (aL c)
 bel:Below ↑W W w
theorem rE (h:Hid (tG W c w)) (k:Below ↑w w w'):Hid (tG W c w'):=lh ⟨h.out.b.keep k,aD h.out.bel k h.out.bel.size⟩
theorem AT {i:Nat} {v:Value} (hv:(aL c)[i]? =some v):∀w,Hid (tG W c w)→w.cell? ⟨W.heap.size,i,none⟩=some v:=fun w q=>q.out.b.cell hv
theorem Gl.lt (h:Gl w):0 < w.heap.size:=World.block_lt_of_cell? w _ (h 0 (by omega)).1
theorem dD.below {a b g:Nat} {f:FS} (h:dD w a b g f) (k:Below ↑w w w'):dD w' a b g f:=h.keep k
theorem AU (c:Setup) (hc:∀i,c i≤↑ω) (hr:rightC c=true) (W:World) (hg:Gl W):
  Calls prog 53 #[.agg (aL c)] W (LB W c):=by
 have HR:=lh (fun w=>uK c hc w);have HE:=lh (fun w=>CL w);have HN:=lh (fun w=>IV w);have HL:=lh (fun w=>DR (c 3) w);have HY:=lh (fun w=>NV w);have HC:=lh (fun w=>NM w);have HF:=lh (fun w=>fJ.1 c w hc);have HG:=lh hg;have N0:Hid (tG W c (W.alloc (.cells (aL c) 24))):=lh ⟨Blk.new W _ _,aC _ _⟩;rw [hr] at HR;have r0:=AT (W:=W) (c:=c) (i:=0) (v:=↑(c 0)) rfl;have r1:=AT (W:=W) (c:=c) (i:=1) (v:=↑(c 1)) rfl;have r2:=AT (W:=W) (c:=c) (i:=2) (v:=↑(c 2)) rfl;have r3:=AT (W:=W) (c:=c) (i:=3) (v:=↑(c 3)) rfl;have r4:=AT (W:=W) (c:=c) (i:=4) (v:=↑(c 4)) rfl;have r5:=AT (W:=W) (c:=c) (i:=5) (v:=↑(c 5)) rfl;clear hg hr hc;have HX:Hid (aL c=#[↑(c 0),↑(c 1),↑(c 2),↑(c 3),↑(c 4),↑(c 5)]):=lh rfl;generalize hq:dE c=fc at *;rw [HX.out] at N0 HR HF ⊢;simp only [BS.cells] at HN;go_enter func53,ntmps53;go_wp2_with fail;refine (HR.out _).mono ?_;rintro e w1 ⟨rfl,hb⟩;have N1:=rE N0 hb;clear N0 hb HR;go_wp2_with fail;have N2:=rE N1 ((aB.drew w1).below _);go_region_held3 (fun w'=>Hid (tG W c w'))
  (first | with_reducible exact N2 | with_reducible exact N3 | with_reducible exact N4 | with_reducible exact N5 | with_reducible exact N6 | with_reducible exact N7 | with_reducible exact N8 | exact rE N8 (aC _ _))
  (first
   | (go_at_call 95;(with_reducible refine (HE.out _).mono ?_);rintro e w2 ⟨rfl,hb⟩;have N3:Hid (tG W c w2):=(by subst hb;exact rE N2 (aC _ _));have P3:Hid (Blk w2 w1.heap.size 243 Pi.zero.cells):=(by subst hb;exact lh (Blk.new _ _ _));have Z3:Hid (w2.heap.size=w1.heap.size + 1):=(by subst hb;exact lh (by simp));clear hb)
   | (go_at_call 96;(with_reducible refine (HN.out _).mono ?_);rintro e w3 ⟨rfl,hb⟩;have N4:=rE N3 hb;have P4:=lh (P3.out.keep hb);clear hb)
   | (go_at_call 97;(with_reducible refine (HL.out _).mono ?_);rintro e w4 hp;obtain ⟨fa,fb,fg,rfl,hfl,hsa,hsb,hsg⟩:=hp.at_;have N5:=rE N4 hp.bel;have P5:=lh (P4.out.keep hp.bel);have F5:=lh hfl;have A5:=lh (show ↑W≤fa∧↑W≤fb∧↑W≤fg from ⟨Nat.le_trans N4.out.bel.size hsa,Nat.le_trans N4.out.bel.size hsb,Nat.le_trans N4.out.bel.size hsg⟩);clear hp hfl hsa hsb hsg)
   | (go_at_call 98;(with_reducible refine (HY.out _).mono ?_);rintro e w5 ⟨rfl,hy,hb⟩;have N6:=rE N5 hb;have P6:=lh (P5.out.keep hb);have F6:=lh (F5.out.keep hb);have Y6:=lh hy;clear hb hy)
   | (go_at_call 99;(with_reducible refine (HC.out _).mono ?_);rintro e w6 ⟨rfl,hb⟩;have K6:Hid (Below ↑w5 w5 w6):=(by subst hb;exact lh (aC _ _));have C7:Hid (Blk w6 w5.heap.size 251 Ct.zero.cells):=(by subst hb;exact lh (Blk.new _ _ _));have N7:=rE N6 K6.out;have P7:=lh (P6.out.keep K6.out);have F7:=lh (F6.out.keep K6.out);have Y7:=lh (Blk.keep Y6.out K6.out);clear hb)
   | (go_at_call 89;(with_reducible refine (HF.out _).mono ?_);rintro e w7 ⟨rfl,hb⟩;have N8:=rE N7 hb;have P8:=lh (P7.out.keep hb);have F8:=lh (F7.out.keep hb);have Y8:=lh (Blk.keep Y7.out hb);have C8:=lh (C7.out.keep hb);clear hb))
 have sz:=N8.out.bel.size;have s1:=N1.out.bel.size;have s5:=N5.out.bel.size;have s4:=N4.out.bel.size;have s6:=N6.out.bel.size;have EA:aG (w7.alloc (.cells (dY ⟨w7.heap.size,w1.heap.size,fa,fb,w4.heap.size,w5.heap.size⟩ (ES.new c)) 111)) (Own.at_ W.heap.size) ⟨w7.heap.size,w1.heap.size,fa,fb,w4.heap.size,w5.heap.size⟩ (ES.new c):=
  ⟨Blk.new _ _ _,P8.out.keep (aC _ _),⟨fg,A5.out.2.2,F8.out.keep (aC _ _)⟩,Blk.keep Y8.out (aC _ _),C8.out.keep (aC _ _),
   HG.out.keep (aD N8.out.bel (aC _ _) sz),Nat.not_le.2 HG.out.lt,⟨sz,s1,A5.out.1,A5.out.2.1,s5,s6⟩,Own.at_up (aD N8.out.bel (aC _ _) sz).size⟩
 have EB:=aD N8.out.bel (aC w7 (.cells (dY ⟨w7.heap.size,w1.heap.size,fa,fb,w4.heap.size,w5.heap.size⟩ (ES.new c)) 111)) sz;subst hq;clear N1 N2 N3 N4 N5 N6 N7 N8 P3 P4 P5 P6 P7 P8 F5 F6 F7 F8 Y6 Y7 Y8 C7 C8 K6 A5 Z3 HE HN HL HY HC HF;go_wp2_with fail;go_ret2
 exact ⟨⟨_,rfl,EA⟩,EB⟩
end Go.Proofs.YtjhiooggnpbecaaGreatDoor
