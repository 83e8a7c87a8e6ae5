/- Lemmas. -/
import Derived.Test.YtjhiooggnpbecaaGreatDoorK348
import Derived.Test.YtjhiooggnpbecaaGreatDoorK349
import Derived.Test.YtjhiooggnpbecaaGreatDoorK350
set_option linter.unusedVariables false
set_option maxHeartbeats 8000000
set_option maxRecDepth 100000
namespace Go.Proofs.YtjhiooggnpbecaaGreatDoor
open Tryz
variable {a:Addr} {B n nb r:Nat} {D:SD} {s:SN} {v:Value} {V w w':World}
open Go.RowKit Cf
structure TpI (V:World) (B:Nat) (D:SD) (s:SN) (nb n r:Nat) (w:World):Prop where
 at_:aH w B D s
 bel:Below B V w
 b:Blk w nb 61 #[↑n,↑r]
 hB:B≤nb
theorem TpI.to (h:TpI V B D s nb n r w) (k:Below ↑w w w'):TpI V B D s nb n r w':=⟨h.at_.keep k,aD h.bel k h.at_.size,h.b.keep k,h.hB⟩
theorem TpI.over {s':SN} (h:TpI V B D s nb n r w) (k:bZ w B D s' w'):TpI V B D s' nb n r w':=⟨k.at_,h.bel.trans k.bel,k.kt _ (by decide) _ _ h.b,h.hB⟩
theorem TpI.set {V w:World} {B:Nat} {D:SD} {s:SN} {nb n r:Nat} (h:TpI V B D s nb n r w) (x y:Nat):TpI V B D s nb x y ((w.setCell ⟨nb,0,none⟩ ↑x).setCell ⟨nb,1,none⟩ ↑y)∧KN [61] w ((w.setCell ⟨nb,0,none⟩ ↑x).setCell ⟨nb,1,none⟩ ↑y):=by
 have k1:=KN.set h.b 0 ↑x;have b1:Below B w (w.setCell ⟨nb,0,none⟩ ↑x):=(Below.refl _ _).setCell (p:=⟨nb,0,none⟩) h.hB _;have h1:=h.b.set 0 ↑x;have k2:=KN.set h1 1 ↑y;have b2:Below B (w.setCell ⟨nb,0,none⟩ ↑x) _:=(Below.refl _ _).setCell (p:=⟨nb,1,none⟩) h.hB ↑y;have h2:=h1.set 1 ↑y;exact ⟨⟨(h.at_.kn k1 (by decide) b1).kn k2 (by decide) b2,h.bel.trans (b1.trans b2),h2,h.hB⟩,k1.trans k2⟩
theorem PW (hv:V.cell? a=some v) (ha:a.block < B):∀w,Hid (TpI V B D s nb n r w)→w.cell? a=some v:=fun w q=>(q.out.bel.cell ha).trans hv
theorem dL.kx {l:List Pk} (h:dL n w v l) (k:KN [61] w w'):dL n w' v l:=by
 refine ⟨h.1,?_⟩;rcases h.2 with c | ⟨g,cap,cur,e,h1,hb,h2⟩
 ·exact .inl c
 ·exact .inr ⟨g,cap,cur,e,h1,k _ (by decide) _ _ hb,h2⟩
structure TpR (V:World) (B:Nat) (D:SD) (s:SN) (nb n r:Nat) (v:Value) (L:List Pk) (w:World):Prop where
 i:TpI V B D s nb n r w
 p:dL 0 w v L
theorem TpR.to {V w w':World} {B:Nat} {D:SD} {s:SN} {nb n r:Nat} {v:Value} {L:List Pk} (h:TpR V B D s nb n r v L w) (k:Below ↑w w w'):TpR V B D s nb n r v L w':=⟨h.i.to k,h.p.keep k⟩
theorem RG {x:Value} {L:List Pk} (hv:V.cell? a=some v) (ha:a.block < B):∀w,Hid (TpR V B D s nb n r x L w)→w.cell? a=some v:=fun w q=>(q.out.i.bel.cell ha).trans hv
theorem jV:(∀(v:Option Addr) (cap b off fr:Nat) (l:List tM) (c:Setup) (W:World) (hg:Gl W) (h:rG W v l b off) (hr:rightC c=false∨60 < l.length),Calls prog 6 #[.agg (aL c),.slice v l.length cap,.int .u8 (fr:Int)] W fun e w'=>e=.returned (.bool true)∧Below ↑W W w')∧(∀(v:Option Addr) (cap b off fr:Nat) (l:List tM) (c:Setup) (hc:∀i,c i≤↑ω) (W:World) (hg:Gl W) (h:rG W v l b off) (hr:rightC c=true) (hlen:l.length≤60) (hfr:fr≤255),Calls prog 6 #[.agg (aL c),.slice v l.length cap,.int .u8 (fr:Int)] W fun e w'=>e=.returned (.bool true)∧Below ↑W W w'):=by
 refine ⟨?_,?_⟩
 have k0v:Hid True:=trivial;intro v cap b off fr l c W hg h hr;rotate_left;intro v cap b off fr l c hc W hg h hr hlen hfr;rotate_left
 all_goals
  have HR:=lh (fun w=>yB c w);have HA:=lh (fun w hg=>LE w hg);have HG:=lh hg;have N0:Hid (qX W c (W.alloc (.cells (aL c) 24))):=lh ⟨Blk.new W _ _,aC _ _⟩;have HX:Hid (aL c=#[↑(c 0),↑(c 1),↑(c 2),↑(c 3),↑(c 4),↑(c 5)]):=lh rfl;first
  |revert k0v;intro k0v
  |have HN:=lh (fun w hg=>o9 c hc hr w hg);obtain ⟨FF,hF⟩:∃FF,FF=fr % 60:=⟨_,rfl⟩;have HPd:=lh (Pd.start (F:=FF) hr hc);have HRt:=lh hr;have HLn:=lh hlen;have HI:=lh h;have f0:Int.tmod (fr:Int) 60=(FF:Int):=by rw [Int.tmod_eq_emod_of_nonneg (by omega)];omega
   have f1:(fr:Int) % 60=(FF:Int):=by omega
   have f2:IntKind.i64.wrap (fr:Int)=(fr:Int):=by rw [IntKind.wrap_i64];omega
   have f3:IntKind.i64.wrap (FF:Int)=(FF:Int):=by rw [IntKind.wrap_i64];omega
   have HFF:=lh (show _∧_∧_∧_ from ⟨f0,f1,f2,f3⟩);rw [hr] at HR
  have r0:=lW (W:=W) (c:=c) (i:=0) (v:=↑(c 0)) rfl;have r1:=lW (W:=W) (c:=c) (i:=1) (v:=↑(c 1)) rfl;have r2:=lW (W:=W) (c:=c) (i:=2) (v:=↑(c 2)) rfl;have r3:=lW (W:=W) (c:=c) (i:=3) (v:=↑(c 3)) rfl;have r4:=lW (W:=W) (c:=c) (i:=4) (v:=↑(c 4)) rfl;have r5:=lW (W:=W) (c:=c) (i:=5) (v:=↑(c 5)) rfl;first
  |revert k0v;intro k0v;clear hg h;rw [HX.out] at N0 HR ⊢;generalize rightC c=bc at *;obtain ⟨t1,t1a,t1b⟩:∃t:Bool,decide ((60:Int) < (l.length:Int))=t∧decide (60 < l.length)=t:=⟨decide (60 < l.length),by simp only [decide_eq_decide];omega,rfl⟩
   have hcs:bc=false∨bc=true∧t1=true:=by
    rcases hr with e | e
    ·exact .inl e
    ·have:t1=true:=t1b.symm.trans (decide_eq_true e);cases bc
     ·exact .inl rfl
     ·exact .inr ⟨rfl,this⟩
   clear hr;rcases hcs with rfl | ⟨rfl,rfl⟩
   all_goals
    go_enter func6,ntmps6;go_wp2_with fail;refine (HR.out _).mono ?_;rintro e w1 ⟨rfl,hb⟩;have N1:=lV N0 hb;clear N0 hb HR;go_wp2_with fail;refine (HA.out _ (HG.out.keep N1.out.bel)).mono ?_;rintro e w3 ⟨rfl,hb⟩;have N3:=lV N1 hb;clear hb N1;go_wp2_with fail;go_ret;exact ⟨rfl,N3.out.bel⟩
  |have q0:decide ((60:Int) < (l.length:Int))=false:=decide_eq_false (by omega);have q0n:decide (60 < l.length)=false:=decide_eq_false (by omega);clear hg hr hc h hlen hF f0 f1 f2 f3 hfr;rw [HX.out] at N0 HR HN ⊢;go_enter func6,ntmps6;go_wp2_with fail;refine (HR.out _).mono ?_;rintro e w1 ⟨rfl,hb⟩;have N1:=lV N0 hb;clear N0 hb HR;go_wp2_with fail;refine (HN.out _ (HG.out.keep N1.out.bel)).mono ?_;rintro e w2 ⟨D,rfl,hs,hb⟩;have HBw:=lh (aD N1.out.bel hb N1.out.bel.size);have HBz:=lh N1.out.bel.size;have HBh:=lh hs.size;have al:=aC w2 (.cells #[↑ζ,↑ζ] 61);have I0:Hid (TpI w2 w1.heap.size D (SN.new c) w2.heap.size 0 0 (w2.alloc (.cells #[↑ζ,↑ζ] 61))):=lh ⟨hs.keep al,al.mono hs.size,Blk.new w2 _ _,hs.size⟩;have HRul:=lh HI.out.2.2;have HBl:=lh HI.out.2.1;clear hs hb HN N1 HI al r0 r1 r2 r3 r4 r5 q0 q0n;go_wp2_with fail;go_loopw [10,12,13] (fun qv tv iv wr=>∃(k m:Nat) (s:SN) (Q n rest Wn:Nat),qv=↑Q∧tv=↑Wn∧iv=.int .i64 (k:Int)∧k≤l.length∧Pd c FF k m s Q n rest Wn∧Hid (TpI w2 w1.heap.size D s w2.heap.size n rest wr)) (fun _ _ i _=>l.length - (intOf i).toNat);case atStart=>exact ⟨0,0,SN.new c,0,0,0,0,rfl,rfl,rfl,Nat.zero_le _,HPd.out,I0⟩
   case round=>
    obtain ⟨k,m,s,Q,n,rest,Wn,rfl,rfl,rfl,hk,hpd,I⟩:=hrel;clear I0 HPd;have HP:=lh hpd;clear hpd;have HEn:=lh (HBw.out.trans (I.out.bel.mono HBz.out));by_cases hlt:k < l.length
    ·obtain ⟨rfl,hb⟩:=HBl.out (by omega);have hbB:b < w1.heap.size:=Nat.lt_of_lt_of_le hb HBz.out;have A:=HRul.out k hlt;generalize l.getD k default=q at *;have hk60:k < 60:=by have:=HLn.out;omega
     have i0:(0:Int)≤(k:Int):=by omega
     have i1:(k:Int) < (l.length:Int):=by omega
     have x0:=(HEn.out.cell (p:=⟨b,off + k * 3,none⟩) hb).trans A.k0;have x1:=(HEn.out.cell (p:=⟨b,off + k * 3 + 1,none⟩) hb).trans A.k1;have x2:=(HEn.out.cell (p:=⟨b,off + k * 3 + 2,none⟩) hb).trans A.k2;have HGw:=lh (HG.out.keep HEn.out);by_cases hbad:60 < q.r.length∨1073741824 < q.k
     case pos=>
      obtain ⟨t1,t1a,t1b⟩:∃t:Bool,decide ((60:Int) < (q.r.length:Int))=t∧decide (60 < q.r.length)=t:=⟨decide (60 < q.r.length),by simp only [decide_eq_decide];omega,rfl⟩;obtain ⟨t2,t2a,t2b⟩:∃t:Bool,decide ((1073741824:Int) < (q.k:Int))=t∧decide (1073741824 < q.k)=t:=⟨decide (1073741824 < q.k),by simp only [decide_eq_decide];omega,rfl⟩
      have hcs:t1=true∨t1=false∧t2=true:=by
       cases h1:t1
       ·refine .inr ⟨rfl,?_⟩;rcases hbad with e | e
        ·rw [h1] at t1b;exact absurd (decide_eq_true e) (by rw [t1b];decide)
        ·exact t2b.symm.trans (decide_eq_true e)
       ·exact .inl rfl
      clear hbad A hk60 HRul HBl;rcases hcs with rfl | ⟨rfl,rfl⟩
      all_goals
       go_wp2_with fail;refine (HA.out _ HGw.out).mono ?_;rintro e z1 ⟨rfl,hb⟩;have HB9:=lh (aD HEn.out hb HEn.out.size);clear hb;go_wp2_with fail;go_ret;exact ⟨rfl,HB9.out⟩
     case neg=>
     have hqr:q.r.length≤60:=by omega
     have hqk:q.k≤1073741824:=by omega
     have t1:decide ((60:Int) < (q.r.length:Int))=false:=decide_eq_false (by omega);have t1n:decide (60 < q.r.length)=false:=decide_eq_false (by omega);have t2:decide ((1073741824:Int) < (q.k:Int))=false:=decide_eq_false (by omega);have t2n:decide (1073741824 < q.k)=false:=decide_eq_false (by omega);have HWr:=lh (fun (w:World) (z:aH w w1.heap.size D s)=>tE q.n w z HP.out.ok A.b1);obtain ⟨m',hmid⟩:=HP.out.mid HRt.out hk60 q.n (q.r.all okB) (fun p=>b7 q.r p.n);have ho1:=SN.write_ok HP.out.ok q.n;have HAk:=lh (fun (w:World) (z:aH w w1.heap.size D (s.writeS q.n)) (hbl:Below ↑w1 w2 w)=>F9 (s.writeS q.n).c.t q.p q.c q.r w z ho1 HRt.out (by omega) (by omega) (fun w' hb' _=>A.b2.2.1.keep (HBw.out.trans ((hbl.trans hb').mono HBz.out))) (by omega) A.b2.2.2);have HTi1:=lh (fun (w:World) (z:aH w w1.heap.size D (s.writeS q.n))=>jD w z);have y2:=PW (V:=w2) (B:=w1.heap.size) (D:=D) (s:=s.writeS q.n) (nb:=w2.heap.size) (n:=n) (r:=rest) ((HBw.out.cell (p:=⟨b,off + k * 3 + 2,none⟩) hb).trans A.k2) hbB;have Y0:=lh ((HBw.out.cell (p:=⟨b,off + k * 3,none⟩) hb).trans A.k0);generalize hs2:(s.writeS q.n).ackS (s.writeS q.n).c.t (q.r.all okB) (fun p=>b7 q.r p.n)=s2 at *;generalize (s.writeS q.n).ackE (s.writeS q.n).c.t (q.r.all okB)=ea at *;generalize s.writeS q.n=s1 at *;generalize s.writeE q.n=ew at *;clear hs2 ho1;have hcl:=hmid.ok.cl.1;have e1:(s2.c.t:Int) + (q.k:Int)=((s2.c.t + q.k:Nat):Int):=by omega
     have e1w:IntKind.u64.wrap ((s2.c.t + q.k:Nat):Int)=((s2.c.t + q.k:Nat):Int):=by rw [IntKind.wrap_u64];omega
     have HE1:=lh (show _∧_ from ⟨e1,e1w⟩);have HTi2:=lh (fun (w:World) (z:aH w w1.heap.size D s2)=>jD w z);have HTk:=lh (fun (w:World) (z:aH w w1.heap.size D s2)=>xK (s2.c.t + q.k) w z hmid.ok HRt.out (by omega) (by omega));have HAf:=lh (fun ht=>Pd.after hmid HRt.out hk60 (A:=q.k) ht);have hte:s2.tickE (s2.c.t + q.k)=s2.c.toE (s2.c.t + q.k):=rfl;rw [← hte] at HAf;have HHb:=lh (show b < w1.heap.size∧q.k≤1073741824∧k < 60 from ⟨hbB,hqk,hk60⟩);clear e1 e1w hcl hmid hqr hqk A hbad hte hb hbB;generalize s2.tickS (s2.c.t + q.k)=s3 at *;generalize s2.tickL (s2.c.t + q.k)=L at *;generalize s2.tickE (s2.c.t + q.k)=er at *;generalize s2.c.t + q.k=now at *;go_wp2_with fail;refine (HWr.out _ I.out.at_).mono ?_;rintro e u2 hq;obtain rfl:=hq.e;have M0:=lh (I.out.over hq.i);have M1:=lh (M0.out.to ((aB.drew u2).below _));clear hq I HWr x0 x1 x2 M0 t1 t1n t2 t2n;go_wp2_with fail;refine aM (S:=(fun w'=>Hid (TpI w2 w1.heap.size D s1 w2.heap.size n rest w'))) 8 (by kernel_rfl) (by kernel_rfl) (by kernel_rfl) M1 ?_;generalize u2.drew=wd at *;simp only [List.size_toArray,List.length_cons,List.length_nil,Nat.reduceAdd,Array.replicate_succ,Array.replicate_zero,List.push_toArray,List.nil_append,List.cons_append];refine ckc 0 ?_;refine ckc 1 ?_;refine ckl 2 (fun w hS=>(HTi1.out w hS.out.at_).mono fun e w' q=>And.intro q.1 (lh (hS.out.to q.2))) ?_;refine ckc 3 ?_;refine ckc 4 ?_;refine ckc 5 ?_;refine ckc 6 ?_;refine cks 7 ?_;refine bB.last (by kernel_rfl) (fun w hSw=>?_);refine rdy [8] ?_;refine cns (fun K hK=>?_) .nil;go_simp;refine (HAk.out _ hSw.out.at_ hSw.out.bel).mono ?_;rintro e u3 hq;obtain rfl:=hq.e;have M2:=lh (hSw.out.over hq.i);clear hSw M1 HAk HTi1 y2 hq;go_wp2_with fail;refine bck hK trivial (fun _=>?_);clear hK;refine wpAnyH_done (by kernel_rfl) ?_ _;skip;obtain ⟨e1,e1w⟩:=HE1.out;have y0:=PW (V:=w2) (B:=w1.heap.size) (D:=D) (s:=s2) (nb:=w2.heap.size) (n:=n) (r:=rest) Y0.out HHb.out.1;have M3:=lh (M2.out.to ((aB.drew u3).below _));clear M2 HE1;go_wp2_with fail;refine aM (S:=(fun w'=>Hid (TpI w2 w1.heap.size D s2 w2.heap.size n rest w'))) 9 (by kernel_rfl) (by kernel_rfl) (by kernel_rfl) M3 ?_;generalize u3.drew=wd at *;simp only [List.size_toArray,List.length_cons,List.length_nil,Nat.reduceAdd,Array.replicate_succ,Array.replicate_zero,List.push_toArray,List.nil_append,List.cons_append];refine ckc 0 ?_;refine ckc 1 ?_;refine ckl 2 (fun w hS=>(HTi2.out w hS.out.at_).mono fun e w' q=>And.intro q.1 (lh (hS.out.to q.2))) ?_;refine ckc 3 ?_;refine ckc 4 ?_;refine ckc 5 ?_;refine ckc 6 ?_;refine cks 7 ?_;refine ckc 8 ?_;refine bB.last (by kernel_rfl) (fun w hSw=>?_);refine rdy [9] ?_;refine cns (fun K hK=>?_) .nil;go_simp;refine (HTk.out _ hSw.out.at_).mono ?_;rintro e u4 ⟨v4,rfl,hrow,hi4⟩;have M4:=lh (hSw.out.over hi4);have HRw:=lh (hrow.mono (Nat.zero_le _));clear hSw M3 HTk HTi2 y0 hrow hi4;go_wp2_with fail;refine bck hK trivial (fun _=>?_);clear hK;refine tkc 10 ?_ trivial;refine tkc 11 ?_ trivial;refine tkc 12 ?_ trivial;refine tkc 13 ?_ trivial;refine tkc 14 ?_ trivial;refine wpAnyH_done (by kernel_rfl) ?_ _;skip;clear e1 e1w;obtain ⟨vp,gc,rfl⟩:=HRw.out.pr.form;by_cases her:er=0
     case neg=>
      have d0:(er == 0)=false:=beq_eq_false_iff_ne.2 her;have d0b:(er != 0)=true:=by simpa using her
      go_wp2_with fail;refine (HA.out _ (HG.out.keep (HBw.out.trans (M4.out.bel.mono HBz.out)))).mono ?_;rintro e z1 ⟨rfl,hb⟩;have HB9:=lh (HBw.out.trans ((M4.out.to hb).bel.mono HBz.out));clear hb;go_wp2_with fail;go_ret;exact ⟨rfl,HB9.out⟩
     case pos=>
     subst her;have g:=HAf.out rfl;have HGa:=lh g;have HEg:=lh (fun (w:World) (z:aH w w1.heap.size D s3)=>AG w z);have HQu:=lh (fun (w:World) (z:aH w w1.heap.size D s3)=>jQ w z.e HGa.out.ok.e);have HPa:=lh (fun (w:World) (z:aH w w1.heap.size D s3)=>qB w z.e HGa.out.ok.e);obtain ⟨f0,f1,f2,f3⟩:=HFF.out;clear HAf g;have hLt:=lh hlt;by_cases hkF:k < FF
     case pos=>
      have d1:decide ((k:Int) < (FF:Int))=true:=decide_eq_true (by omega);have d1n:decide (k < FF)=true:=decide_eq_true hkF;have HPn:=lh (HP.out.ahead HGa.out hkF);clear hkF;go_wp2_with fail;refine (HEg.out _ M4.out.at_).mono ?_;rintro e u5 ⟨rfl,hb⟩;have M5:=lh (M4.out.to hb);clear hb M4;go_wp2_with fail;refine (HQu.out _ M5.out.at_).mono ?_;rintro e u6 ⟨rfl,hb⟩;have M6:=lh (M5.out.to hb);clear hb M5;go_wp2_with fail;go_roundw;case rel=>exact ⟨k + 1,m',s3,s3.e.quant,n,rest,Wn,rfl,rfl,by go_num,by omega,HPn.out,M6⟩
      case measure=>simp [intOf];omega
     case neg=>
     have d1:decide ((k:Int) < (FF:Int))=false:=decide_eq_false (by omega);have d1n:decide (k < FF)=false:=decide_eq_false hkF;obtain ⟨hpd2,hle,hx,hy⟩:=HP.out.on HGa.out (by omega) HHb.out.2.1;have HPn:=lh hpd2;have hnb:=hpd2.nb;have hrb:=hpd2.rb;have hwb:=hpd2.wb;have hqb:=hpd2.qb;have hpm:=HGa.out.pm;have hnb0:=HP.out.nb;have hwb0:=HP.out.wb;obtain ⟨pq,hpq⟩:∃pq,pq=s3.e.pace / 1000000:=⟨_,rfl⟩;obtain ⟨pr,hpr⟩:∃pr,pr=s3.e.pace % 1000000:=⟨_,rfl⟩;rw [← hpq,← hpr] at HPn hle;rw [← hpq] at hnb;rw [← hpr] at hrb;rw [← hpq] at hx;rw [← hpr] at hy;have a1:(s3.e.pace:Int) / 1000000=(pq:Int):=by omega
     have a1t:Int.tdiv (s3.e.pace:Int) 1000000=(pq:Int):=by rw [Int.tdiv_eq_ediv_of_nonneg (by omega)];exact a1
     have a1w:IntKind.u64.wrap (pq:Int)=(pq:Int):=by rw [IntKind.wrap_u64];omega
     have a2:(pq:Int) * (q.k:Int)=((pq * q.k:Nat):Int):=by rw [Int.natCast_mul]
     have a2w:IntKind.u64.wrap ((pq * q.k:Nat):Int)=((pq * q.k:Nat):Int):=by rw [IntKind.wrap_u64];omega
     have a3:(s3.e.pace:Int) % 1000000=(pr:Int):=by omega
     have a3t:Int.tmod (s3.e.pace:Int) 1000000=(pr:Int):=by rw [Int.tmod_eq_emod_of_nonneg (by omega)];exact a3
     have a3w:IntKind.u64.wrap (pr:Int)=(pr:Int):=by rw [IntKind.wrap_u64];omega
     have a4:(pr:Int) * (q.k:Int)=((pr * q.k:Nat):Int):=by rw [Int.natCast_mul]
     have a4w:IntKind.u64.wrap ((pr * q.k:Nat):Int)=((pr * q.k:Nat):Int):=by rw [IntKind.wrap_u64];omega
     clear hpq hpr;generalize pq * q.k=x at *;generalize pr * q.k=y at *;have b1:(n:Int) + (x:Int)=((n + x:Nat):Int):=by omega
     have b1w:IntKind.u64.wrap ((n + x:Nat):Int)=((n + x:Nat):Int):=by rw [IntKind.wrap_u64];omega
     have b2:(rest:Int) + (y:Int)=((rest + y:Nat):Int):=by omega
     have b2w:IntKind.u64.wrap ((rest + y:Nat):Int)=((rest + y:Nat):Int):=by rw [IntKind.wrap_u64];omega
     have HB4:=lh (show _∧_∧_∧_ from ⟨b1,b1w,b2,b2w⟩);obtain ⟨z1,hz1⟩:∃z,z=Q + (n + x):=⟨_,rfl⟩;obtain ⟨z2,hz2⟩:∃z,z=rest + y + 999999:=⟨_,rfl⟩;obtain ⟨z3,hz3⟩:∃z,z=z2 / 1000000:=⟨_,rfl⟩;obtain ⟨z4,hz4⟩:∃z,z=z1 + z3:=⟨_,rfl⟩;have c1:(Q:Int) + ((n + x:Nat):Int)=(z1:Int):=by omega
     have c1w:IntKind.u64.wrap (z1:Int)=(z1:Int):=by rw [IntKind.wrap_u64];omega
     have c2:((rest + y:Nat):Int) + 999999=(z2:Int):=by omega
     have c2w:IntKind.u64.wrap (z2:Int)=(z2:Int):=by rw [IntKind.wrap_u64];omega
     have c3:(z2:Int) / 1000000=(z3:Int):=by omega
     have c3t:Int.tdiv (z2:Int) 1000000=(z3:Int):=by rw [Int.tdiv_eq_ediv_of_nonneg (by omega)];exact c3
     have c3w:IntKind.u64.wrap (z3:Int)=(z3:Int):=by rw [IntKind.wrap_u64];omega
     have c4:(z1:Int) + (z3:Int)=(z4:Int):=by omega
     have c4w:IntKind.u64.wrap (z4:Int)=(z4:Int):=by rw [IntKind.wrap_u64];omega
     have c5:decide ((z4:Int) < ((Wn + aR L:Nat):Int))=false:=decide_eq_false (by omega);have c5n:decide (z4 < Wn + aR L)=false:=decide_eq_false (by omega);have HC9:=lh (show _∧_∧_∧_∧_∧_∧_∧_∧_∧_∧_ from ⟨c1,c1w,c2,c2w,c3,c3t,c3w,c4,c4w,c5,c5n⟩);have HW9:=lh (show Wn + aR L≤4259775 * 61 from by omega);clear b1 b1w b2 b2w c1 c1w c2 c2w c3 c3t c3w c4 c4w c5 c5n hz1 hz2 hz3 hz4 hpd2 hle hx hy hnb hrb hwb hqb hpm hnb0 hwb0 hkF HP;generalize s3.e.pace=pc at *;have P0:Hid (TpR w2 w1.heap.size D s3 w2.heap.size n rest (.slice vp L.length gc) L u4.drew):=lh (TpR.to ⟨M4.out,HRw.out⟩ ((aB.drew u4).below _));have y0:=RG (V:=w2) (B:=w1.heap.size) (D:=D) (s:=s3) (nb:=w2.heap.size) (n:=n) (r:=rest) (x:=.slice vp L.length gc) (L:=L) Y0.out HHb.out.1;clear M4 HRw;go_wp2_with fail;refine aM (S:=(fun w'=>Hid (TpR w2 w1.heap.size D s3 w2.heap.size n rest (.slice vp L.length gc) L w'))) 10 (by kernel_rfl) (by kernel_rfl) (by kernel_rfl) P0 ?_;generalize u4.drew=wd at *;simp only [List.size_toArray,List.length_cons,List.length_nil,Nat.reduceAdd,Array.replicate_succ,Array.replicate_zero,List.push_toArray,List.nil_append,List.cons_append];refine ckc 0 ?_;refine ckl 1 (fun w hS=>(HEg.out w hS.out.i.at_).mono fun e w' q=>And.intro q.1 (lh (hS.out.to q.2))) ?_;refine ckl 2 (fun w hS=>(HPa.out w hS.out.i.at_).mono fun e w' q=>And.intro q.1 (lh (hS.out.to q.2))) ?_;refine ckc 3 ?_;refine ckc 4 ?_;refine ckc 5 ?_;refine ckc 6 ?_;refine ckc 7 ?_;refine cks 8 ?_;refine ckc 9 ?_;refine bB.last (by kernel_rfl) (fun w hSw=>?_);refine rdy [10] ?_;refine cns (fun K hK=>?_) .nil;go_simp;have P1:=hSw;clear hSw P0;refine bck hK trivial (fun _=>?_);clear hK;refine wpAnyH_done (by kernel_rfl) ?_ _;skip;have P2:=lh (P1.out.to ((aB.drew w).below _));clear P1;go_wp2_with fail;refine aM (S:=(fun w'=>Hid (TpR w2 w1.heap.size D s3 w2.heap.size n rest (.slice vp L.length gc) L w'))) 10 (by kernel_rfl) (by kernel_rfl) (by kernel_rfl) P2 ?_;generalize w.drew=wd at *;simp only [List.size_toArray,List.length_cons,List.length_nil,Nat.reduceAdd,Array.replicate_succ,Array.replicate_zero,List.push_toArray,List.nil_append,List.cons_append];refine ckc 0 ?_;refine ckl 1 (fun w hS=>(HEg.out w hS.out.i.at_).mono fun e w' q=>And.intro q.1 (lh (hS.out.to q.2))) ?_;refine ckl 2 (fun w hS=>(HPa.out w hS.out.i.at_).mono fun e w' q=>And.intro q.1 (lh (hS.out.to q.2))) ?_;refine ckc 3 ?_;refine ckc 4 ?_;refine ckc 5 ?_;refine ckc 6 ?_;refine ckc 7 ?_;refine cks 8 ?_;refine ckc 9 ?_;refine bB.last (by kernel_rfl) (fun w hSw=>?_);refine rdy [10] ?_;refine cns (fun K hK=>?_) .nil;go_simp;have P3:=hSw;clear hSw P2;refine bck hK trivial (fun _=>?_);clear hK;refine wpAnyH_done (by kernel_rfl) ?_ _;skip;clear a1 a1t a1w a2 a2w a3 a3t a3w a4 a4w y0;have n0:=P3.out.i.b.cell (i:=0) (v:=↑n) rfl;have n1:=P3.out.i.b.cell (i:=1) (v:=↑rest) rfl;have nf:=P3.out.i.b.free;obtain ⟨b1,b1w,b2,b2w⟩:=HB4.out;obtain ⟨T5,K5⟩:=P3.out.i.set (n + x) (rest + y);have P5:=lh (show TpR w2 w1.heap.size D s3 w2.heap.size (n + x) (rest + y) (.slice vp L.length gc) L _ from ⟨T5,P3.out.p.kx K5⟩);generalize n + x=nn at *;generalize rest + y=rr at *;clear HB4 T5 K5;go_wp2_with fail;clear n0 n1 nf b1 b1w b2 b2w P3;go_loopw [12,18] (fun tv jv wx=>∃jj:Nat,tv=↑(Wn + aR (L.take jj):Nat)∧jv=.int .i64 (jj:Int)∧jj≤L.length∧Hid (TpR w2 w1.heap.size D s3 w2.heap.size nn rr (.slice vp L.length gc) L wx)) (fun _ jv _=>L.length - (intOf jv).toNat);case atStart=>exact ⟨0,by rw [List.take_zero,fN,Nat.add_zero],rfl,Nat.zero_le _,P5⟩
     case round=>
      obtain ⟨jj,rfl,rfl,hj,R⟩:=hrel;clear P5;by_cases hlj:jj < L.length
      ·obtain ⟨g,og,e,_,_⟩:=R.out.p.pr.its (by omega)
       obtain rfl:vp=some ⟨g,0,none⟩:=by
        rcases R.out.p.2 with ⟨_,e2⟩ | ⟨g2,c2,cu,e2,_⟩
        ·omega
        ·injection e2 with e3;rw [e3] at e ⊢;injection e with e;injection e with e4;rw [e4]
       clear e;have z1:=(R.out.p.cell hlj 1 (by decide)).trans (show (Pk.cs (L.getD jj Itm.z))[1]? =some (Value.int .u64 ((L.getD jj Itm.z).size:Int)) from rfl);have htk:=AJ hlj;have htl:=rB L (jj + 1);have hw9:=HW9.out;have hl65:=HGa.out.len;generalize (L.getD jj Itm.z).size=sz at *;obtain ⟨t0,ht0⟩:∃t,t=Wn + aR (L.take jj):=⟨_,rfl⟩;obtain ⟨t1,ht1⟩:∃t,t=Wn + aR (L.take (jj + 1)):=⟨_,rfl⟩;rw [← ht0];have g1:(t0:Int) + (sz:Int)=(t1:Int):=by omega
       have g1w:IntKind.u64.wrap (t1:Int)=(t1:Int):=by rw [IntKind.wrap_u64];omega
       have j0:(0:Int)≤(jj:Int):=by omega
       have j1:(jj:Int) < (L.length:Int):=by omega
       have jj65:jj < 65:=by omega
       have HT1:=lh ht1;clear htk htl hw9 ht0 ht1 hl65 hj;go_wp2_with fail;go_roundw;case rel=>exact ⟨jj + 1,by rw [← HT1.out],by go_num,by omega,R⟩
       case measure=>simp [intOf];omega
      ·obtain rfl:jj=L.length:=by omega
       rw [List.take_length];obtain ⟨c1,c1w,c2,c2w,c3,c3t,c3w,c4,c4w,c5,c5n⟩:=HC9.out;have n0:=R.out.i.b.cell (i:=0) (v:=↑nn) rfl;have n1:=R.out.i.b.cell (i:=1) (v:=↑rr) rfl;have M9:=lh R.out.i;clear hlj hj R;generalize Wn + aR L=wt at *;go_wp2_with fail;have hlt:=hLt.out;go_roundw;case rel=>exact ⟨k + 1,m',s3,Q,nn,rr,wt,rfl,rfl,by go_num,by omega,HPn.out,M9⟩
       case measure=>simp [intOf];omega
    ·obtain rfl:k=l.length:=by omega
     go_wp2_with fail;refine (HA.out _ (HG.out.keep HEn.out)).mono ?_;rintro e z1 ⟨rfl,hb⟩;have HB9:=lh (aD HEn.out hb HEn.out.size);clear hb;go_wp2_with fail;go_ret;exact ⟨rfl,HB9.out⟩
theorem TopPaced_walk (v:Option Addr) (len cap:Nat) (fr:Nat) (c:Setup) (l:List tM) (b off:Nat) (hfr:fr≤255) (W:World) (hc:∀i,c i≤↑ω) (h:l.length=len∧rG W v l b off) (hg:Gl W):
  Calls prog 6 #[.agg (aL c),.slice v len cap,.int .u8 (fr:Int)] W fun e w'=>e=.returned (.bool true)∧Below ↑W W w':=by
 obtain ⟨rfl,h⟩:=h;cases hr:rightC c with
 | false=>exact jV.1 v cap b off fr l c W hg h (.inl hr)
 | true=>
   by_cases hs:l.length≤60
   ·exact jV.2 v cap b off fr l c hc W hg h hr hs hfr
   ·exact jV.1 v cap b off fr l c W hg h (.inr (by omega))
end Go.Proofs.YtjhiooggnpbecaaGreatDoor
