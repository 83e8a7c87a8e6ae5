/- Lemmas. -/
import Derived.Test.YtjhiooggnpbecaaGreatDoorK239
set_option linter.unusedVariables false
set_option maxHeartbeats 8000000
set_option maxRecDepth 100000
namespace Go.Proofs.YtjhiooggnpbecaaGreatDoor
open Tryz
open Go.RowKit Cf
variable {cs:Array Value} {P:EP} {l:List Pk} {B B' b d i k m now:Nat} {D:SD} {s:SN} {c:Setup} {v:Value} {W w w':World}
theorem IV (n:Nat) (W:World) (h:aJ W B D s) (ho:s.ok c k m d) (hn:n≤↑ω):
  Calls prog 29 #[↑(π D.b),↑n] W (qE B D (.returned (.int .i64 (s.writeE n))) (s.writeS n) W):=by
 have hcl:=ho.cl.2;have hsm:=ho.small;have HC:Hid (∀w,aJ w B D s→Calls prog 59 #[↑(π D.c),↑n] w fun e w'=>e=.returned (.int .i64 (s.c.countE n))∧Hid (bM w B D {s with c:=s.c.countS n} w')):=lh (fun w q=>(sX D.c n s.c w q.c hn (by omega)).mono (by rintro e w' hh;exact ⟨hh.e,lh (q.cl hh.blk hh.gr)⟩));have HA:=lh (bS s.w n (by omega) hn);have M0:=lh (cA.start h);have p6:=h.b.cell (i:=6) (v:=↑(π D.c)) rfl;have HS:Hid (s.writeS n={s with c:=s.c.countS n,w:=if s.c.countE n=0 then Pl.addS s.w n else s.w}):=lh rfl;have HE:Hid (s.writeE n=s.c.countE n):=lh rfl;rw [HS.out,HE.out];clear h ho hcl hsm HS HE;generalize Pl.addS s.w n=z at *;generalize s.c.countE n=r at *;generalize s.c.countS n=c' at *;by_cases hr:r=0
 ·subst hr
  rw [if_pos rfl];go_enter func29,ntmps29;go_wp2_with fail;refine (HC.out _ M0.out.at_).mono ?_;rintro e w1 ⟨rfl,ha⟩;have M1:=lh (M0.out.step ha.out);have c12:=M1.out.at_.b.cell (i:=12) (v:=↑s.w) rfl;have M2:=lh (M1.out.to (aC w1 (.cells #[↑s.w,↑n] 22)));have K2:=lh (nc2 w1 s.w n 22);clear ha;go_wp2_with fail;refine (HA.out _ _ K2.out.1 K2.out.2).mono ?_;rintro e w2 ⟨rfl,hb⟩;have M3:=lh (M2.out.to hb);clear c12 hb;have c12:=M3.out.at_.b.cell (i:=12) (v:=↑s.w) rfl;have y12:=M3.out.at_.b.free 12;have M4:=lh (M3.out.step (M3.out.at_.wt z));go_wp2_with fail;go_ret;exact ⟨rfl,M4.out⟩
 ·rw [if_neg hr]
  have d1:(r == 0)=false:=beq_eq_false_iff_ne.2 hr;clear hr;go_enter func29,ntmps29;go_wp2_with fail;refine (HC.out _ M0.out.at_).mono ?_;rintro e w1 ⟨rfl,ha⟩;have M1:=lh (M0.out.step ha.out);clear ha;go_wp2_with fail;go_ret;exact ⟨rfl,M1.out⟩
theorem NS (W:World) (h:aJ W B D s) (ho:s.ok c k m d):
  Calls prog 25 #[↑(π D.b)] W fun e w'=>e=.returned (.tuple #[↑s.nextT,.bool s.nextB])∧Below ↑W W w':=by
 have hsm:=ho.small;have hsz:s.size≤18446744073709551615:=by unfold SN.size;omega
 have HPa:=lh (fun w (q:aJ w B D s)=>m0 w q);have HSz:=lh (fun w (q:aJ w B D s)=>sN w q);have HFi:=lh (fun w (q:aJ w B D s)=>yY s.size w q hsz);have HNe:=lh (fun w (q:aJ w B D s)=>KZ D.p s.size s.p w q.p ho.pok hsz);have R0:=lh (mB.start h);have hf:s.fits=(decide (0 < s.w) && decide (Pl.addS s.size s.L.fl≤s.e.cwnd)):=by
  unfold SN.fits;rw [show Pl.addS s.L.fl s.size=Pl.addS s.size s.L.fl by unfold Pl.addS;rw [Nat.add_comm]]
 unfold SN.nextT SN.nextB;rw [hf];clear h ho hsm hf hsz;generalize decide (Pl.addS s.size s.L.fl≤s.e.cwnd)=g at *;generalize s.p.nextT s.size=nt at *;generalize s.p.nextB s.size=nb at *;rcases hp:s.c.p with _ | _
 ·rw [hp] at HPa
  clear hp;by_cases c0:s.w=0
  ·have d2:decide (0 < s.w)=false:=decide_eq_false (by omega)
   have e0:((s.w:Int) == 0)=true:=by rw [c0];rfl
   rw [d2];clear c0 d2;go_enter func25,ntmps25;go_wp2_with fail;refine (HPa.out _ R0.out.at_).mono ?_;rintro e w1 ⟨rfl,hb⟩;have R1:=lh (R0.out.to hb);have c12:=R1.out.at_.b.cell (i:=12) (v:=↑s.w) rfl;clear hb;go_wp2_with fail;go_ret2
   exact ⟨rfl,R1.out.bel⟩
  ·have d2:decide (0 < s.w)=true:=decide_eq_true (by omega)
   have e0:((s.w:Int) == 0)=false:=beq_eq_false_iff_ne.2 (by omega);rw [d2];clear c0 d2;cases g
   ·go_enter func25,ntmps25
    go_wp2_with fail;refine (HPa.out _ R0.out.at_).mono ?_;rintro e w1 ⟨rfl,hb⟩;have R1:=lh (R0.out.to hb);have c12:=R1.out.at_.b.cell (i:=12) (v:=↑s.w) rfl;clear hb;go_wp2_with fail;refine (HSz.out _ R1.out.at_).mono ?_;rintro e w2 ⟨rfl,hb⟩;have R2:=lh (R1.out.to hb);clear hb;go_wp2_with fail;refine (HFi.out _ R2.out.at_).mono ?_;rintro e w3 ⟨rfl,hb⟩;have R3:=lh (R2.out.to hb);clear hb;go_wp2_with fail;go_ret2
    exact ⟨rfl,R3.out.bel⟩
   ·go_enter func25,ntmps25
    go_wp2_with fail;refine (HPa.out _ R0.out.at_).mono ?_;rintro e w1 ⟨rfl,hb⟩;have R1:=lh (R0.out.to hb);have c12:=R1.out.at_.b.cell (i:=12) (v:=↑s.w) rfl;clear hb;go_wp2_with fail;refine (HSz.out _ R1.out.at_).mono ?_;rintro e w2 ⟨rfl,hb⟩;have R2:=lh (R1.out.to hb);clear hb;go_wp2_with fail;refine (HFi.out _ R2.out.at_).mono ?_;rintro e w3 ⟨rfl,hb⟩;have R3:=lh ((R2.out.to hb).to ((aB.drew _).below _));clear hb;go_wp2_with fail;have p11:=TD (W:=W) (B:=B) (D:=D) (s:=s) (i:=11) (v:=↑(π D.p)) rfl;go_region_held3 (fun w'=>Hid (mB W B D s w'))
     (first | with_reducible exact R5 | with_reducible exact R4 | with_reducible exact R3)
     (first
      | (go_at_call 51;(with_reducible refine (HSz.out _ R3.out.at_).mono ?_);rintro e w4 ⟨rfl,hb⟩;have R4:=lh (R3.out.to hb);clear hb)
      | (go_at_call 52;(with_reducible refine (HNe.out _ R4.out.at_).mono ?_);rintro e w5 ⟨rfl,hb⟩;have R5:=lh (R4.out.to hb);clear hb))
    go_wp2_with fail;go_ret2
    exact ⟨rfl,R5.out.bel⟩
 ·rw [hp] at HPa
  clear hp;go_enter func25,ntmps25;go_wp2_with fail;refine (HPa.out _ R0.out.at_).mono ?_;rintro e w1 ⟨rfl,hb⟩;have R1:=lh (R0.out.to hb);clear hb;go_wp2_with fail;go_ret2
  exact ⟨rfl,R1.out.bel⟩
theorem wW (now:Nat) (W:World) (h:aJ W B D s) (ht:s.c.toE now≠0):
  Calls prog 31 #[↑(π D.b),↑now] W fun e w'=>e=.returned (.tuple #[.slice none 0 0,.int .i64 (s.c.toE now)])∧cA W B D (s.tim now) w':=by
 have HC:Hid (∀w,aJ w B D s→Calls prog 63 #[↑(π D.c),↑now] w fun e w'=>e=.returned (.int .i64 (s.c.toE now))∧Hid (bM w B D (s.tim now) w')):=lh (fun w q=>(nB D.c now s.c w q.c).mono (by rintro e w' hh;exact ⟨hh.e,lh (q.cl hh.blk hh.gr)⟩));have M0:=lh (cA.start h);have p6:=h.b.cell (i:=6) (v:=↑(π D.c)) rfl;clear h;generalize s.c.toE now=r at *;have d1:(r == 0)=false:=beq_eq_false_iff_ne.2 ht;have d2:(r != 0)=true:=by simp [ht]
 clear ht;go_enter func31,ntmps31;go_wp2_with fail;refine (HC.out _ M0.out.at_).mono ?_;rintro e w1 ⟨rfl,ha⟩;have M1:=lh (M0.out.step ha.out);clear ha;go_wp2_with fail;go_ret2
 exact ⟨rfl,M1.out⟩
theorem uQ (now:Nat) (W:World) (h:aJ W B D s) (ho:s.ok c k m d) (hr:rightC c=true) (hk:k≤900) (hm:m≤5900) (ht:s.c.toE now=0):
  Calls prog 31 #[↑(π D.b),↑now] W fun e w'=>∃v,e=.returned (.tuple #[v,.int .i64 0])∧fL W.heap.size w' v (s.tickL now)∧cA W B D (s.tickS now) w':=by
 obtain ⟨y1,y2,y3,y4⟩:=CS.to_yes ht;have hnow:now≤18446744073709551615:=by omega
 have o0:=SN.to_ok ho now;have ow:=SN.loss_ok o0;have op:=(SN.pre_ok ho hr hk now hnow).1;obtain ⟨oq,_,_,_,_,_,hnx⟩:=SN.paced_ok ho hr hk ht;obtain ⟨hti,hto⟩:=SN.tick_yes ho hr hk ht;have e1:s.tickS now=(s.paced now).run.1.rest:=by unfold SN.tickS;rw [if_pos ht]
 have e2:s.tickL now=(s.paced now).run.2:=by unfold SN.tickL;rw [if_pos ht]
 have hlen:(s.paced now).L.next + (s.paced now).run.2.length≤5999:=by
  have h1:=hti.len;rw [e2] at h1;have h2:=oq.few;have h3:=ho.few;rw [hnx];omega
 have hct:(s.tim now).c.t=now:=by show (s.c.toS now).t=now;rw [y1]
 have HC:Hid (∀w,aJ w B D s→Calls prog 63 #[↑(π D.c),↑now] w fun e w'=>e=.returned (.int .i64 0)∧Hid (bM w B D (s.tim now) w')):=lh (fun w q=>(nB D.c now s.c w q.c).mono (by rintro e w' hh;exact ⟨by rw [hh.e,ht],lh (q.cl hh.blk hh.gr)⟩));have HL:Hid (∀w,aJ w B D (s.tim now)→Calls prog 69 #[↑(π D.b)] w fun e w'=>e=.returned ↑(aS 0 (s.tim now).lostL:Nat)∧Hid (bM w B D (s.tim now).loss w')):=lh (fun w q=>(yZ w q o0).mono (by rintro e w' hh;exact ⟨hh.e,lh ⟨hh.i.at_,hh.i.bel,hh.i.kt⟩⟩));have hlo:aS 0 (s.tim now).lostL≤18446744073709551615:=dO (Nat.zero_le _);have HT:Hid ((s.tim now).lostL≠[]→∀w,aJ w B D (s.tim now).loss→Calls prog 67 #[↑(π D.b),.agg #[↑ζ,↑ζ,↑ζ,↑ζ,↑ζ,.bool false,.bool false,↑ζ,↑ζ,↑(aS 0 (s.tim now).lostL:Nat),↑ζ]] w fun e w'=>e=.returned (.tuple #[])∧Hid (bM w B D (s.pre now) w')):=lh (fun hne w q=>by
  have hx:EvS.ok ⟨(s.tim now).loss.c.t,0,0,0,0,false,false,(s.tim now).loss.a.n,0,aS 0 (s.tim now).lostL,(s.tim now).loss.L.fl⟩:=⟨by show (s.tim now).c.t≤_;omega,Nat.zero_le _,Nat.zero_le _,Nat.zero_le _,Nat.zero_le _,ow.a.n,Nat.zero_le _,hlo,SN.fl_le _⟩;refine (zA w q ow.e hk hx (ES.on_c _ _)).mono ?_;rintro e w' hh;have hpre:s.pre now={(s.tim now).loss with e:=(s.tim now).loss.e.on ⟨(s.tim now).loss.c.t,0,0,0,0,false,false,(s.tim now).loss.a.n,0,aS 0 (s.tim now).lostL,(s.tim now).loss.L.fl⟩}:=by
   have hb:(!(s.tim now).lostL.isEmpty)=true:=by simp [hne]
   have hc2:(s.tim now).loss.c.t=now:=hct;unfold SN.pre SN.tell;rw [if_pos hb,hc2]
  rw [hpre];exact ⟨hh.e,lh ⟨hh.i.at_,hh.i.bel,hh.i.kt⟩⟩)
 have HNo:Hid ((s.tim now).lostL=[]→s.pre now=(s.tim now).loss):=lh (fun he=>by unfold SN.pre SN.tell;rw [he];rfl);have HPa:=lh (fun w (q:aJ w B D (s.pre now))=>rK w q.e op.e);have HQu:=lh (fun w (q:aJ w B D (s.pre now))=>kA w q.e op.e);have hpa:(s.pre now).e.pace≤18446744073709551615:=Nat.le_trans (ES.pace_le _) (by omega);have hqu:(s.pre now).e.quant≤18446744073709551615:=by have:=op.fr.qm;have:=bP hr;omega
 have HTi:Hid (∀w,aJ w B D (s.pre now)→Calls prog 70 #[↑(π D.p),↑now,↑((s.pre now).e.pace),↑((s.pre now).e.quant)] w fun e w'=>e=.returned (.int .i64 ((s.pre now).p.tickE now))∧Hid (bM w B D (s.paced now) w')):=lh (fun w q=>(KX D.p now _ _ (s.pre now).p w q.p op.pok hnow hpa hqu).mono (by rintro e w' hh;exact ⟨hh.e,lh (q.pc hh.blk hh.gr)⟩));have HSe:Hid (∀w,aJ w B D (s.paced now)→Calls prog 71 #[↑(π D.b)] w fun e w'=>∃v,e=.returned v∧fL w.heap.size w' v (s.tickL now)∧cA w B D (s.tickS now) w'):=lh (fun w q=>by rw [e1,e2];exact NR w q oq hr hlen);have HN:=lh (SN.lost_sum o0);have M0:=lh (cA.start h);have p6:=h.b.cell (i:=6) (v:=↑(π D.c)) rfl;clear h ho hr hk hm ht y1 y2 y3 y4 hnow o0 ow op oq hnx hti hto e1 e2 hlen hct hlo hpa hqu;generalize s.tickS now=sx at *;generalize s.tickL now=lx at *;generalize s.paced now=sq at *;generalize (s.pre now).e.pace=pa at *;generalize (s.pre now).e.quant=qu at *;generalize (s.pre now).p.tickE now=te at *;generalize s.pre now=sp at *;generalize (s.tim now).loss=sl at *;generalize aS 0 (s.tim now).lostL=n at *;generalize (s.tim now).lostL=ll at *;generalize s.tim now=st at *;go_enter func31,ntmps31;go_wp2_with fail;refine (HC.out _ M0.out.at_).mono ?_;rintro e w1 ⟨rfl,ha⟩;have M1:=lh (M0.out.step ha.out);clear ha HC;go_wp2_with fail;refine (HL.out _ M1.out.at_).mono ?_;rintro e w2 ⟨rfl,ha⟩;have M2:=lh (M1.out.step ha.out);clear ha HL p6;rcases HN.out with ⟨hL,hn⟩ | ⟨hL,hn⟩
 ·have d1:decide ((0:Int) < (n:Int))=false:=decide_eq_false (by omega)
  have d2:decide (0 < n)=false:=decide_eq_false (by omega);have HE:=lh (HNo.out hL);rw [← HE.out] at M2;clear hL hn HN HNo HT;have M4:=lh (M2.out.to ((aB.drew _).below _));have p11:=sM (W:=W) (B:=B) (D:=D) (i:=11) (v:=↑(π D.p)) (fun _ _=>rfl);have p10:=sM (W:=W) (B:=B) (D:=D) (i:=10) (v:=↑(π D.e.b)) (fun _ _=>rfl);go_wp2_with fail;go_region_held3 (fun w'=>Hid (pD W B D w'))
   (first | with_reducible exact (bD M7) | with_reducible exact (bD M6) | with_reducible exact (bD M5) | with_reducible exact (bD M4))
   (first
    | (go_at_call 23;(with_reducible refine (HPa.out _ M4.out.at_).mono ?_);rintro e w5 ⟨rfl,hb⟩;have M5:=lh (M4.out.to hb);clear hb)
    | (go_at_call 18;(with_reducible refine (HQu.out _ M5.out.at_).mono ?_);rintro e w6 ⟨rfl,hb⟩;have M6:=lh (M5.out.to hb);clear hb)
    | (go_at_call 70;(with_reducible refine (HTi.out _ M6.out.at_).mono ?_);rintro e w7 ⟨rfl,ha⟩;have M7:=lh (M6.out.step ha.out);clear ha))
  go_wp2_with fail;refine (HSe.out _ M7.out.at_).mono ?_;rintro e w8 ⟨v,rfl,hrow,hi⟩;have M8:=lh (M7.out.over hi);have RW:=lh (hrow.mono M7.out.bel.size);clear hi hrow;go_wp2_with fail;go_ret2
  exact ⟨v,rfl,RW.out,M8.out⟩
 ·have d1:decide ((0:Int) < (n:Int))=true:=decide_eq_true (by omega)
  have d2:decide (0 < n)=true:=decide_eq_true (by omega);have HT:=lh (HT.out hL);clear hL hn HN HNo;go_wp2_with fail;refine (HT.out _ M2.out.at_).mono ?_;rintro e w3 ⟨rfl,ha⟩;have M3:=lh (M2.out.step ha.out);clear ha HT;have M4:=lh (M3.out.to ((aB.drew _).below _));have p11:=sM (W:=W) (B:=B) (D:=D) (i:=11) (v:=↑(π D.p)) (fun _ _=>rfl);have p10:=sM (W:=W) (B:=B) (D:=D) (i:=10) (v:=↑(π D.e.b)) (fun _ _=>rfl);go_wp2_with fail;go_region_held3 (fun w'=>Hid (pD W B D w'))
   (first | with_reducible exact (bD M7) | with_reducible exact (bD M6) | with_reducible exact (bD M5) | with_reducible exact (bD M4))
   (first
    | (go_at_call 23;(with_reducible refine (HPa.out _ M4.out.at_).mono ?_);rintro e w5 ⟨rfl,hb⟩;have M5:=lh (M4.out.to hb);clear hb)
    | (go_at_call 18;(with_reducible refine (HQu.out _ M5.out.at_).mono ?_);rintro e w6 ⟨rfl,hb⟩;have M6:=lh (M5.out.to hb);clear hb)
    | (go_at_call 70;(with_reducible refine (HTi.out _ M6.out.at_).mono ?_);rintro e w7 ⟨rfl,ha⟩;have M7:=lh (M6.out.step ha.out);clear ha))
  go_wp2_with fail;refine (HSe.out _ M7.out.at_).mono ?_;rintro e w8 ⟨v,rfl,hrow,hi⟩;have M8:=lh (M7.out.over hi);have RW:=lh (hrow.mono M7.out.bel.size);clear hi hrow;go_wp2_with fail;go_ret2
  exact ⟨v,rfl,RW.out,M8.out⟩
theorem NT (now:Nat) (W:World) (h:aJ W B D s) (ho:s.ok c k m d) (hr:rightC c=true) (hk:k≤900) (hm:m≤5900):
  Calls prog 31 #[↑(π D.b),↑now] W fun e w'=>∃v,e=.returned (.tuple #[v,.int .i64 (s.tickE now)])∧fL W.heap.size w' v (s.tickL now)∧cA W B D (s.tickS now) w':=by
 unfold SN.tickE;by_cases ht:s.c.toE now=0
 ·rw [ht]
  exact uQ now W h ho hr hk hm ht
 ·obtain ⟨t1,t2⟩:=SN.tick_no ht
  rw [t1,t2];exact (wW now W h ht).mono fun e w' q=>⟨_,q.1,World.ownsRow_nil _ _ _ 7,q.2⟩
theorem aG.mono {s:ES} (h:aG w B P s) (hB:B'≤B) (hl:0 < B'):aG w B' P s:=
 ⟨h.e,h.p,by obtain ⟨g,a,b⟩:=h.f;exact ⟨g,Nat.le_trans hB a,b⟩,h.y,h.n,h.gl,hl,⟨Nat.le_trans hB h.own.1,Nat.le_trans hB h.own.2.1,Nat.le_trans hB h.own.2.2.1,Nat.le_trans hB h.own.2.2.2.1,Nat.le_trans hB h.own.2.2.2.2.1,Nat.le_trans hB h.own.2.2.2.2.2⟩⟩
theorem cR.mono {L:PL} (h:cR w B b L) (hB:B'≤B):cR w B' b L:=by
 obtain ⟨rb,g,s,k1,k2,k3,k4,k5,k6,k7,k8⟩:=h;exact ⟨rb,g,s,k1,k2,k3,k4,k5,k6,k7,fun x hx=>Nat.le_trans hB (k8 x hx)⟩
structure oL (W:World) (c:Setup) (P:EP) (w:World):Prop where
 n:uO W c w
 e:aG w W.heap.size P (ES.new c)
theorem oL.to (h:oL W c P w) (k:Below ↑w w w'):oL W c P w':=⟨⟨h.n.b.keep k,aD h.n.bel k h.n.bel.size⟩,h.e.keep k⟩
theorem CL (hv:(aK c)[i]? =some v):∀w,Hid (oL W c P w)→w.cell? ⟨W.heap.size,i,none⟩=some v:=fun w q=>q.out.n.b.cell hv
def UU (W:World) (c:Setup) (e:Ending) (w:World):Prop:=∃D:SD,e=.returned (.tuple #[↑(π D.b),.int .i64 0])∧aJ w W.heap.size D (SN.new c)∧Below ↑W W w
theorem CM (c:Setup) (hc:∀i,c i≤↑ω) (hr:rightC c=true) (W:World) (hg:Gl W):
  Calls prog 28 #[.agg (aK c)] W (UU W c):=by
 have HEn:=lh (fun w (q:Gl w)=>CJ c hc hr w q);have HC:=lh zL;have HL:=lh (fun w=>NM (c 2) w (hc 2));have HT:=lh PW;have HA:=lh PV;have HP:=lh PT;have N0:Hid (uO W c (W.alloc (.cells (aK c) 24))):=lh ⟨Blk.new W _ _,aC _ _⟩;have HG:Hid (Gl (W.alloc (.cells (aK c) 24))):=lh (hg.keep (aC _ _));have HLt:=lh hg.lt;have v0:=N0.out.b.cell (i:=0) (v:=↑(c 0)) rfl;have v1:=N0.out.b.cell (i:=1) (v:=↑(c 1)) rfl;have v2:=N0.out.b.cell (i:=2) (v:=↑(c 2)) rfl;have v3:=N0.out.b.cell (i:=3) (v:=↑(c 3)) rfl;have v4:=N0.out.b.cell (i:=4) (v:=↑(c 4)) rfl;have v5:=N0.out.b.cell (i:=5) (v:=↑(c 5)) rfl;clear hg hr hc;have HX:Hid (aK c=#[↑(c 0),↑(c 1),↑(c 2),↑(c 3),↑(c 4),↑(c 5)]):=lh rfl;rw [HX.out] at N0 HEn HG v0 v1 v2 v3 v4 v5 ⊢;go_enter func28,ntmps28;go_wp2_with fail;refine (HEn.out _ HG.out).mono ?_;rintro e w1 hp;obtain ⟨P,rfl,he⟩:=hp.at_;have hsz:=(aC W (.cells #[↑(c 0),↑(c 1),↑(c 2),↑(c 3),↑(c 4),↑(c 5)] 24)).size;have N1:Hid (oL W c P w1):=lh ⟨⟨N0.out.b.keep hp.bel,aD N0.out.bel hp.bel N0.out.bel.size⟩,he.mono hsz HLt.out⟩;clear hp he hsz N0 HG v0 v1 v2 v3 v4 v5 HEn;have r0:=CL (W:=W) (c:=c) (P:=P) (i:=0) (v:=↑(c 0)) rfl;have r1:=CL (W:=W) (c:=c) (P:=P) (i:=1) (v:=↑(c 1)) rfl;have r2:=CL (W:=W) (c:=c) (P:=P) (i:=2) (v:=↑(c 2)) rfl;have r3:=CL (W:=W) (c:=c) (P:=P) (i:=3) (v:=↑(c 3)) rfl;have r4:=CL (W:=W) (c:=c) (P:=P) (i:=4) (v:=↑(c 4)) rfl;have r5:=CL (W:=W) (c:=c) (P:=P) (i:=5) (v:=↑(c 5)) rfl;go_wp2_with fail;have N2:=lh (N1.out.to ((aB.drew w1).below _));go_region_held3 (fun w'=>Hid (oL W c P w'))
  (first | with_reducible exact N2 | with_reducible exact N3 | with_reducible exact N4 | with_reducible exact N5 | with_reducible exact N6 | with_reducible exact N7 | exact lh (N7.out.to (aC _ _)))
  (first
   | (go_at_call 54;(with_reducible refine (HC.out _).mono ?_);rintro e w2 ⟨rfl,hb⟩;have N3:Hid (oL W c P w2):=(by subst hb;exact lh (N2.out.to (aC _ _)));have C3:Hid (Blk w2 w1.heap.size 175 CS.zero.cells):=(by subst hb;exact lh (Blk.new _ _ _));clear hb)
   | (go_at_call 55;(with_reducible refine (HL.out _).mono ?_);rintro e w3 ⟨lb,rfl,hl,hb⟩;have N4:=lh (N3.out.to hb);have C4:=lh (C3.out.keep hb);have L4:=lh hl;clear hl hb)
   | (go_at_call 56;(with_reducible refine (HT.out _).mono ?_);rintro e w4 ⟨rfl,hb⟩;have K4:Hid (Below ↑w3 w3 w4):=(by subst hb;exact lh (aC _ _));have T5:Hid (Blk w4 w3.heap.size 181 TS.zero.cells):=(by subst hb;exact lh (Blk.new _ _ _));have N5:=lh (N4.out.to K4.out);clear hb)
   | (go_at_call 57;(with_reducible refine (HA.out _).mono ?_);rintro e w5 ⟨rfl,hb⟩;have K5:Hid (Below ↑w4 w4 w5):=(by subst hb;exact lh (aC _ _));have A6:Hid (iU w5 w4.heap.size RaS.zero):=(by subst hb;exact lh (Blk.new _ _ _));have N6:=lh (N5.out.to K5.out);clear hb)
   | (go_at_call 58;(with_reducible refine (HP.out _).mono ?_);rintro e w6 ⟨rfl,hb⟩;have K6:Hid (Below ↑w5 w5 w6):=(by subst hb;exact lh (aC _ _));have P7:Hid (Blk w6 w5.heap.size 167 PS.zero.cells):=(by subst hb;exact lh (Blk.new _ _ _));have N7:=lh (N6.out.to K6.out);clear hb))
 have z1:=N1.out.n.bel.size;have z3:=N4.out.n.bel.size;have z4:=N5.out.n.bel.size;have z5:=N6.out.n.bel.size;have z6:=N7.out.n.bel.size;have z2:=N3.out.n.bel.size;have K56:=K5.out.trans (K6.out.mono K5.out.size);have K46:=K4.out.trans (K56.mono K4.out.size);have EA:aJ (w6.alloc (.cells (jI ⟨w6.heap.size,w1.heap.size,lb,w3.heap.size,w4.heap.size,w5.heap.size,P⟩ c 0) 102)) W.heap.size ⟨w6.heap.size,w1.heap.size,lb,w3.heap.size,w4.heap.size,w5.heap.size,P⟩ (SN.new c):=
  ⟨Blk.new _ _ _,(C4.out.keep K46).keep (aC _ _),((L4.out.keep K46).keep (aC _ _)).mono z2,(T5.out.keep K56).keep (aC _ _),(Blk.keep (Blk.keep A6.out K6.out) (aC _ _)),N7.out.e.keep (aC _ _),P7.out.keep (aC _ _),⟨z6,z1,z3,z4,z5⟩⟩
 have EB:=aD N7.out.n.bel (aC w6 (.cells (jI ⟨w6.heap.size,w1.heap.size,lb,w3.heap.size,w4.heap.size,w5.heap.size,P⟩ c 0) 102)) z6;clear N1 N2 N3 N4 N5 N6 N7 C3 C4 L4 T5 A6 P7 K4 K5 K6 K56 K46 z1 z2 z3 z4 z5 z6 HC HL HT HA HP;go_wp2_with fail;go_ret2
 exact ⟨_,rfl,EA,EB⟩

theorem Its.below {α:Type} [Itm α] {v:Option Addr} {l:List α} (h:Its w v l) (k:Below B w w') (hB:0 < l.length→∀a,v=some a→a.block < B):Its w' v l:=by
 intro hp;obtain ⟨b,off,e,hb,hc⟩:=h hp;exact ⟨b,off,e,Nat.lt_of_lt_of_le hb k.size,fun i j hi hj=>(k.cell (p:=⟨b,_,Option.none⟩) (show b < B from hB hp _ e)).trans (hc i j hi hj)⟩
theorem IW (b:Nat) (l:List Rn) (p:Option Addr) (c:Nat) (w:World) (hb:Blk w b 187 #[.slice none 0 0]) (hl:Its w p l) (hm:l.length≤5500) (hu:∀r∈l,r.u64):
  Calls prog 62 #[↑(π b),.slice p l.length c] w fun e w'=>e=.returned (.int .i64 (if l.all okB=true then 0 else 1))∧Fr w w' [b]:=by
 by_cases ho:l.all okB=true
 ·rw [if_pos ho]
  exact (uN b l p c w hb hl hm ho hu).mono fun e w' q=>⟨q.ret,q.fr⟩
 ·rw [if_neg ho]
  have hp:0 < l.length:=by
   cases l with
   | nil=>exact absurd rfl ho
   | cons a r=>simp
  exact (wR b l p c w hl hp hm (by simpa using ho)).mono fun e w' q=>⟨q.1,Fr.of_below q.2 _⟩
theorem sO {w0:World} (h:Below ↑w0 w0 w) (hb:↑w0≤b) (k:Fr w w' [b]):Below ↑w0 w0 w':=
 ⟨k.os.trans h.os,k.tape.trans h.tape,k.output.trans h.output,Nat.le_trans h.size k.size,fun z hz=>(k.block z (Nat.lt_of_lt_of_le hz h.size) (by simp only [List.mem_singleton];omega)).trans (h.block z hz)⟩
theorem PR.kn (h:PR w v l) (k:KN fK w w'):PR w' v l:=by
 refine ⟨h.1,?_⟩;rcases h.2 with c | ⟨g,cap,cur,e,h1,hb,h2⟩
 ·exact .inl c
 ·exact .inr ⟨g,cap,cur,e,h1,k _ (by decide) _ _ hb,h2⟩
theorem SN.took_none {f:Pk→Bool} (h:s.acked f=[]):s.took f=s:=by
 have e:s.L.out.filter (fun p=>!f p)=s.L.out:=by
  rw [List.filter_eq_self];intro p hp;have h1:p ∉ s.acked f:=by rw [h];simp
  unfold SN.acked at h1;rw [List.mem_filter] at h1;cases hf:f p
  ·rfl
  ·exact absurd ⟨hp,hf⟩ h1
 unfold SN.took;rw [e,h];simp
theorem SN.ackG_none {f:Pk→Bool} (h:s.acked f=[]):s.ackG now f=s:=by
 unfold SN.ackG;rw [h]
theorem SN.ackG_some {f:Pk→Bool} {q:Pk} (h:s.acked f=q :: l):s.ackG now f=(((s.took f).sampled now q l).loss).told now (s.a.ackT now q l) (aS 0 (q :: l)) (aS 0 ((s.took f).sampled now q l).lostL):=by
 unfold SN.ackG;rw [h]
def IX (W:World) (B:Nat) (D:SD) (n:Nat) (cs:Array Value) (w:World):Prop:=pD W B D w∧Blk w n 130 cs
theorem qG {n:Nat} (h:Hid (cA W B D s w)) (a:Hid (Blk w n 130 cs)):Hid (IX W B D n cs w):=lh ⟨⟨s,h.out⟩,a.out⟩
theorem IY {n:Nat} (hv:cs[i]? =some v):∀w,Hid (IX W B D n cs w)→w.cell? ⟨n,i,none⟩=some v:=fun w q=>q.out.2.cell hv
theorem UV {n:Nat} (hv:∀c m,(jI D c m)[i]? =some v):∀w,Hid (IX W B D n cs w)→w.cell? ⟨D.b,i,none⟩=some v:=fun w q=>by
 obtain ⟨s,h⟩:=q.out.1;exact h.at_.b.cell (hv _ _)
theorem RK (now:Nat) (lp:Option Addr) (lc:Nat) (l:List Rn) (W:World) (h:aJ W B D s) (ho:s.ok c k m d) (hr:rightC c=true) (hk:k≤900) (hm:m≤5900) (hl:∀w,Below B W w→KN fK W w→Its w lp l) (hll:l.length≤5500) (hu:∀r∈l,r.u64):
  Calls prog 30 #[↑(π D.b),↑now,.slice lp l.length lc] W (qE B D (.returned (.int .i64 (s.ackE now (l.all okB)))) (s.ackS now (l.all okB) fun p=>bN l p.n) W):=by
 have HPa:=lh (fun w (q:aJ w B D s)=>m0 w q);have HTi:=lh (fun w (q:aJ w B D s)=>kY w q);have HNw:=lh uL;have HPu:Hid (∀w b,Below B W w→KN fK W w→Blk w b 187 #[.slice none 0 0]→Calls prog 62 #[↑(π b),.slice lp l.length lc] w fun e w'=>e=.returned (.int .i64 (if l.all okB=true then 0 else 1))∧Fr w w' [b]):=lh (fun w b hb hkn q=>IW b l lp lc w q (hl w hb hkn) hll hu);have HC:Hid (∀w,aJ w B D s→Calls prog 63 #[↑(π D.c),↑now] w fun e w'=>e=.returned (.int .i64 (s.c.toE now))∧Hid (bM w B D (s.tim now) w')):=lh (fun w q=>(nB D.c now s.c w q.c).mono (by rintro e w' hh;exact ⟨hh.e,lh (q.cl hh.blk hh.gr)⟩));have M0:=lh (cA.start h);have HH:=lh h;clear h;unfold SN.ackE SN.ackS;rcases hp:s.c.p with _ | _
 ·rw [hp] at HPa
  rw [if_neg (show ¬ (false=true) by decide),if_neg (show ¬ (false=true) by decide)];by_cases ht:now < s.c.t
  ·rw [if_pos ht,if_pos ht]
   have d1:decide (now < s.c.t)=true:=decide_eq_true ht;clear ht hp ho hr hk hm hl hll hu HNw HPu HC;go_enter func30,ntmps30;go_wp2_with fail;refine (HPa.out _ M0.out.at_).mono ?_;rintro e w1 ⟨rfl,hb⟩;have M1:=lh (M0.out.to hb);clear hb;go_wp2_with fail;refine (HTi.out _ M1.out.at_).mono ?_;rintro e w2 ⟨rfl,hb⟩;have M2:=lh (M1.out.to hb);clear hb;go_wp2_with fail;go_ret;exact ⟨rfl,M2.out⟩
  ·rw [if_neg ht,if_neg ht]
   have d1:decide (now < s.c.t)=false:=decide_eq_false ht;rcases hok:l.all okB with _ | _
   ·rw [hok] at HPu
    rw [if_neg (show ¬ (false=true) by decide)] at HPu ⊢;rw [if_neg (show ¬ (false=true) by decide)];clear ht hp ho hr hk hm hl hll hu HC hok;go_enter func30,ntmps30;go_wp2_with fail;refine (HPa.out _ M0.out.at_).mono ?_;rintro e w1 ⟨rfl,hb⟩;have M1:=lh (M0.out.to hb);clear hb;go_wp2_with fail;refine (HTi.out _ M1.out.at_).mono ?_;rintro e w2 ⟨rfl,hb⟩;have M2:=lh (M1.out.to hb);clear hb;go_wp2_with fail;refine (HNw.out _).mono ?_;rintro e w3 ⟨rfl,hblk,hb⟩;have M3:=lh (M2.out.to hb);have B3:=lh hblk;have L3:=lh hb;clear hb hblk;go_wp2_with fail;refine (HPu.out _ _ M3.out.bel M3.out.kt B3.out).mono ?_;rintro e w4 ⟨rfl,hf⟩;have M4:=lh (M2.out.to (sO L3.out (Nat.le_refl _) hf));clear hf;go_wp2_with fail;go_ret;exact ⟨rfl,M4.out⟩
   ·rw [hok] at HPu
    rw [if_pos (show true=true from rfl)] at HPu ⊢;rw [if_pos (show true=true from rfl)];by_cases hte:s.c.toE now=0
    ·rw [hte] at HC ⊢
     rw [if_pos rfl];obtain ⟨y1,y2,y3,y4⟩:=CS.to_yes hte;have hnow:now≤18446744073709551615:=by omega
     have hct:(s.tim now).c.t=now:=by show (s.c.toS now).t=now;rw [y1]
     have o1:=SN.to_ok ho now;obtain ⟨o2,_⟩:=SN.took_ok o1 (fun p=>bN l p.n);have HAk:Hid (∀w,aJ w B D (s.tim now)→Below B W w→KN fK W w→Calls prog 64 #[↑(π D.l),.slice lp l.length lc] w fun e w'=>∃v,e=.returned (.tuple #[v,.int .i64 0])∧Hid (PR w' v ((s.tim now).acked fun p=>bN l p.n))∧Hid (bM w B D ((s.tim now).took fun p=>bN l p.n) w')):=lh (fun w q hb hkn=>(NN q.l lp lc l (hl w hb hkn) hll hok hu).mono (by rintro e w' ⟨v,rfl,h1,h2,h3,h4,h5⟩;exact ⟨v,rfl,lh h1,lh (q.led h3 h4 h5)⟩));have HU:Hid (∀p∈(s.tim now).acked fun p=>bN l p.n,p.u64):=lh (fun p hp=>SN.u64 o1 hr (by omega) ((List.mem_filter.1 hp).1));rcases hac:(s.tim now).acked (fun p=>bN l p.n) with _ | ⟨q,lq⟩
     ·rw [SN.ackG_none hac]
      rw [hac] at HAk;rw [SN.took_none hac] at HAk;have HRa:Hid (∀w p c,Calls prog 65 #[↑(π D.a),↑now,.slice p 0 c] w fun e w'=>e=.returned (.tuple #[.agg #[↑ζ,↑ζ,↑ζ,↑ζ,.bool false],.bool false])∧Below ↑w w w'):=lh (fun w p c=>tJ D.a c p ↑now w);clear ht hp ho hr hk hm hl hll hu y1 y2 y3 y4 hnow hct o1 o2 HU hac hok hte;generalize s.tim now=st at *;have p6:=HH.out.b.cell (i:=6) (v:=↑(π D.c)) rfl;clear p6;go_enter func30,ntmps30;go_wp2_with fail;refine (HPa.out _ M0.out.at_).mono ?_;rintro e w1 ⟨rfl,hb⟩;have M1:=lh (M0.out.to hb);clear hb;go_wp2_with fail;refine (HTi.out _ M1.out.at_).mono ?_;rintro e w2 ⟨rfl,hb⟩;have M2:=lh (M1.out.to hb);clear hb;go_wp2_with fail;refine (HNw.out _).mono ?_;rintro e w3 ⟨rfl,hblk,hb⟩;have M3:=lh (M2.out.to hb);have B3:=lh hblk;have L3:=lh hb;clear hb hblk;go_wp2_with fail;refine (HPu.out _ _ M3.out.bel M3.out.kt B3.out).mono ?_;rintro e w4 ⟨rfl,hf⟩;have M4:=lh (M2.out.to (sO L3.out (Nat.le_refl _) hf));clear hf;have c6:=M4.out.at_.b.cell (i:=6) (v:=↑(π D.c)) rfl;go_wp2_with fail;refine (HC.out _ M4.out.at_).mono ?_;rintro e w5 ⟨rfl,ha⟩;have M5:=lh (M4.out.step ha.out);have c7:=M5.out.at_.b.cell (i:=7) (v:=↑(π D.l)) rfl;clear ha c6;go_wp2_with fail;refine (HAk.out _ M5.out.at_ M5.out.bel M5.out.kt).mono ?_;rintro e w6 ⟨v,rfl,hv,ha⟩;obtain ⟨vp,vc,rfl⟩:=hv.out.form;have M6:=lh (M5.out.step ha.out);have c9:=M6.out.at_.b.cell (i:=9) (v:=↑(π D.a)) rfl;clear ha c7 hv;go_wp2_with fail;refine (HRa.out _ _ _).mono ?_;rintro e w7 ⟨rfl,hb⟩;have M7:=lh (M6.out.to hb);have M8:=lh (M7.out.to (aC w7 (.cells #[↑ζ,↑ζ,↑ζ,↑ζ,.bool false] 130)));clear hb c9;go_wp2_with fail;go_ret;exact ⟨rfl,M8.out⟩
     ·rw [SN.ackG_some hac]
      rw [hac] at HAk HU;have hx:=FX o1.a hnow HU.out;have o3:=SN.sampled_ok o2 hnow HU.out;have o4:=SN.loss_ok o3;have hac2:aS 0 (q :: lq)≤18446744073709551615:=dO (Nat.zero_le _);have hlo2:aS 0 (((s.tim now).took fun p=>bN l p.n).sampled now q lq).lostL≤18446744073709551615:=dO (Nat.zero_le _);have HRa:Hid (∀w p c,aJ w B D ((s.tim now).took fun p=>bN l p.n)→PR w (.slice p (lq.length + 1) c) (q :: lq)→Calls prog 65 #[↑(π D.a),↑now,.slice p (lq.length + 1) c] w fun e w'=>e=.returned (.tuple #[.agg #[↑(((s.tim now).a.ackT now q lq).deliv),↑(((s.tim now).a.ackT now q lq).interval),↑(((s.tim now).a.ackT now q lq).rate),↑(((s.tim now).a.ackT now q lq).rtt),.bool ((s.tim now).a.ackT now q lq).lim],.bool true])∧Hid (bM w B D {((s.tim now).took fun p=>bN l p.n) with a:=(s.tim now).a.ack now q lq} w')):=lh (fun w p c qq hpr=>by
       obtain ⟨p',c',e,h1,h2⟩:=hpr.form2;have e1:c=c':=by injection e
       subst e1;exact (Q7 D.a now c p q lq (s.tim now).a w qq.a o1.a hnow hpr.its HU.out (fun a ea=>by
        subst ea;obtain ⟨cs,hb⟩:=hpr.blk (g:=a.block) rfl;exact hb.ty qq.a (by decide)) (by simpa using h1) h2).mono (by rintro e w' hh;exact ⟨hh.e,lh (qq.ra hh.blk hh.gr)⟩))
      have HTr:Hid (∀w,aJ w B D {((s.tim now).took fun p=>bN l p.n) with a:=(s.tim now).a.ack now q lq}→Calls prog 66 #[↑(π D.t),↑(((s.tim now).a.ackT now q lq).rtt)] w fun e w'=>e=.returned (.tuple #[])∧Hid (bM w B D (((s.tim now).took fun p=>bN l p.n).sampled now q lq) w')):=lh (fun w qq=>(PX D.t _ (s.tim now).t w qq.t o1.t hx.2.2.2).mono (by rintro e w' hh;exact ⟨hh.e,lh (qq.tr hh.blk hh.gr)⟩));have HBy:=lh (fun w v (qq:PR w v (q :: lq))=>kZ (q :: lq) w qq (fun x hx=>(HU.out x hx).size));have HLo:Hid (∀w,aJ w B D (((s.tim now).took fun p=>bN l p.n).sampled now q lq)→Calls prog 69 #[↑(π D.b)] w fun e w'=>e=.returned ↑(aS 0 (((s.tim now).took fun p=>bN l p.n).sampled now q lq).lostL:Nat)∧Hid (bM w B D (((s.tim now).took fun p=>bN l p.n).sampled now q lq).loss w')):=lh (fun w qq=>(yZ w qq o3).mono (by rintro e w' hh;exact ⟨hh.e,lh ⟨hh.i.at_,hh.i.bel,hh.i.kt⟩⟩));have HTe:Hid (∀w,aJ w B D (((s.tim now).took fun p=>bN l p.n).sampled now q lq).loss→Calls prog 67 #[↑(π D.b),.agg #[↑ζ,↑(((s.tim now).a.ackT now q lq).deliv),↑(((s.tim now).a.ackT now q lq).interval),↑(((s.tim now).a.ackT now q lq).rate),↑(((s.tim now).a.ackT now q lq).rtt),.bool ((s.tim now).a.ackT now q lq).lim,.bool true,↑ζ,↑(aS 0 (q :: lq):Nat),↑(aS 0 (((s.tim now).took fun p=>bN l p.n).sampled now q lq).lostL:Nat),↑ζ]] w fun e w'=>e=.returned (.tuple #[])∧Hid (bM w B D ((((s.tim now).took fun p=>bN l p.n).sampled now q lq).loss.told now ((s.tim now).a.ackT now q lq) (aS 0 (q :: lq)) (aS 0 (((s.tim now).took fun p=>bN l p.n).sampled now q lq).lostL)) w')):=lh (fun w qq=>by
       have hv:EvS.ok ⟨(((s.tim now).took fun p=>bN l p.n).sampled now q lq).loss.c.t,((s.tim now).a.ackT now q lq).deliv,((s.tim now).a.ackT now q lq).interval,((s.tim now).a.ackT now q lq).rate,((s.tim now).a.ackT now q lq).rtt,((s.tim now).a.ackT now q lq).lim,true,(((s.tim now).took fun p=>bN l p.n).sampled now q lq).loss.a.n,aS 0 (q :: lq),aS 0 (((s.tim now).took fun p=>bN l p.n).sampled now q lq).lostL,(((s.tim now).took fun p=>bN l p.n).sampled now q lq).loss.L.fl⟩:=⟨by show (s.tim now).c.t≤_;omega,hx.1,hx.2.1,hx.2.2.1,hx.2.2.2,o4.a.n,hac2,hlo2,SN.fl_le _⟩;refine (zA w qq o4.e hk hv (ES.on_c _ _)).mono ?_;rintro e w' hh;have hc2:(((s.tim now).took fun p=>bN l p.n).sampled now q lq).loss.c.t=now:=hct;have he:(((s.tim now).took fun p=>bN l p.n).sampled now q lq).loss.told now ((s.tim now).a.ackT now q lq) (aS 0 (q :: lq)) (aS 0 (((s.tim now).took fun p=>bN l p.n).sampled now q lq).lostL)={(((s.tim now).took fun p=>bN l p.n).sampled now q lq).loss with e:=(((s.tim now).took fun p=>bN l p.n).sampled now q lq).loss.e.on ⟨(((s.tim now).took fun p=>bN l p.n).sampled now q lq).loss.c.t,((s.tim now).a.ackT now q lq).deliv,((s.tim now).a.ackT now q lq).interval,((s.tim now).a.ackT now q lq).rate,((s.tim now).a.ackT now q lq).rtt,((s.tim now).a.ackT now q lq).lim,true,(((s.tim now).took fun p=>bN l p.n).sampled now q lq).loss.a.n,aS 0 (q :: lq),aS 0 (((s.tim now).took fun p=>bN l p.n).sampled now q lq).lostL,(((s.tim now).took fun p=>bN l p.n).sampled now q lq).loss.L.fl⟩}:=by
        unfold SN.told;rw [hc2]
       rw [he];exact ⟨hh.e,lh ⟨hh.i.at_,hh.i.bel,hh.i.kt⟩⟩)
      clear ht hp ho hr hk hm hl hll hu y1 y2 y3 y4 hnow hct o1 o2 o3 o4 HU hac hok hte hx hac2 hlo2;generalize (((s.tim now).took fun p=>bN l p.n).sampled now q lq).loss.told now ((s.tim now).a.ackT now q lq) (aS 0 (q :: lq)) (aS 0 (((s.tim now).took fun p=>bN l p.n).sampled now q lq).lostL)=s5 at *;generalize (((s.tim now).took fun p=>bN l p.n).sampled now q lq).loss=s4 at *;generalize aS 0 (((s.tim now).took fun p=>bN l p.n).sampled now q lq).lostL=lo at *;generalize ((s.tim now).took fun p=>bN l p.n).sampled now q lq=s3 at *;generalize ({((s.tim now).took fun p=>bN l p.n) with a:=(s.tim now).a.ack now q lq}:SN)=s2 at *;generalize ((s.tim now).took fun p=>bN l p.n)=s1 at *;generalize aS 0 (q :: lq)=ac at *;generalize ((s.tim now).a.ackT now q lq).deliv=xd at *;generalize ((s.tim now).a.ackT now q lq).interval=xi at *;generalize ((s.tim now).a.ackT now q lq).rate=xr at *;generalize ((s.tim now).a.ackT now q lq).rtt=xt at *;generalize ((s.tim now).a.ackT now q lq).lim=xl at *;generalize s.tim now=st at *;go_enter func30,ntmps30;go_wp2_with fail;refine (HPa.out _ M0.out.at_).mono ?_;rintro e w1 ⟨rfl,hb⟩;have M1:=lh (M0.out.to hb);clear hb;go_wp2_with fail;refine (HTi.out _ M1.out.at_).mono ?_;rintro e w2 ⟨rfl,hb⟩;have M2:=lh (M1.out.to hb);clear hb;go_wp2_with fail;refine (HNw.out _).mono ?_;rintro e w3 ⟨rfl,hblk,hb⟩;have M3:=lh (M2.out.to hb);have B3:=lh hblk;have L3:=lh hb;clear hb hblk;go_wp2_with fail;refine (HPu.out _ _ M3.out.bel M3.out.kt B3.out).mono ?_;rintro e w4 ⟨rfl,hf⟩;have M4:=lh (M2.out.to (sO L3.out (Nat.le_refl _) hf));clear hf;have c6:=M4.out.at_.b.cell (i:=6) (v:=↑(π D.c)) rfl;go_wp2_with fail;refine (HC.out _ M4.out.at_).mono ?_;rintro e w5 ⟨rfl,ha⟩;have M5:=lh (M4.out.step ha.out);have c7:=M5.out.at_.b.cell (i:=7) (v:=↑(π D.l)) rfl;clear ha c6;go_wp2_with fail;refine (HAk.out _ M5.out.at_ M5.out.bel M5.out.kt).mono ?_;rintro e w6 ⟨v,rfl,hv,ha⟩;obtain ⟨vp,vc,rfl⟩:=hv.out.form;have M6:=lh (M5.out.step ha.out);have c9:=M6.out.at_.b.cell (i:=9) (v:=↑(π D.a)) rfl;have hv:Hid (PR w6 (.slice vp (lq.length + 1) vc) (q :: lq)):=hv;clear ha c7;go_wp2_with fail;refine (HRa.out _ _ _ M6.out.at_ hv.out).mono ?_;rintro e w7 ⟨rfl,ha⟩;have M7:=lh (M6.out.step ha.out);have V7:=lh (hv.out.kn ha.out.2.2);have M8:=lh (M7.out.to (aC w7 (.cells #[↑xd,↑xi,↑xr,↑xt,.bool xl] 130)));have V8:=lh (V7.out.keep (aC w7 (.cells #[↑xd,↑xi,↑xr,↑xt,.bool xl] 130)));have X8:=lh (Blk.new w7 130 #[↑xd,↑xi,↑xr,↑xt,.bool xl]);clear ha c9 hv;go_wp2_with fail;generalize w7.alloc (.cells #[↑xd,↑xi,↑xr,↑xt,.bool xl] 130)=w8 at *;obtain ⟨xb,hxb⟩:∃xb,w7.heap.size=xb:=⟨_,rfl⟩;simp only [hxb] at *;clear hxb;have M9:=lh (M8.out.to ((aB.drew _).below _));have X9:=lh (X8.out.keep ((aB.drew _).below _));have V9:=lh (V8.out.keep ((aB.drew _).below _));have r0:=IY (W:=W) (B:=B) (D:=D) (n:=xb) (cs:=#[↑xd,↑xi,↑xr,↑xt,.bool xl]) (i:=0) (v:=↑xd) rfl;have r1:=IY (W:=W) (B:=B) (D:=D) (n:=xb) (cs:=#[↑xd,↑xi,↑xr,↑xt,.bool xl]) (i:=1) (v:=↑xi) rfl;have r2:=IY (W:=W) (B:=B) (D:=D) (n:=xb) (cs:=#[↑xd,↑xi,↑xr,↑xt,.bool xl]) (i:=2) (v:=↑xr) rfl;have r3:=IY (W:=W) (B:=B) (D:=D) (n:=xb) (cs:=#[↑xd,↑xi,↑xr,↑xt,.bool xl]) (i:=3) (v:=↑xt) rfl;have r4:=IY (W:=W) (B:=B) (D:=D) (n:=xb) (cs:=#[↑xd,↑xi,↑xr,↑xt,.bool xl]) (i:=4) (v:=.bool xl) rfl;have r8:=UV (W:=W) (B:=B) (D:=D) (n:=xb) (cs:=#[↑xd,↑xi,↑xr,↑xt,.bool xl]) (i:=8) (v:=↑(π D.t)) (fun _ _=>rfl);go_region_held3 (fun w'=>Hid (IX W B D xb #[↑xd,↑xi,↑xr,↑xt,.bool xl] w'))
       (first | with_reducible exact (qG M10 X10) | with_reducible exact (qG M9 X9))
       (first
        | (go_at_call 66;(with_reducible refine (HTr.out _ M9.out.at_).mono ?_);rintro e w10 ⟨rfl,ha⟩;have M10:=lh (M9.out.step ha.out);have X10:=lh (ha.out.2.2 _ (by decide) _ _ X9.out);have V10:=lh (V9.out.kn ha.out.2.2);clear ha))
      go_wp2_with fail;have M11:=lh (M10.out.to ((aB.drew _).below _));have X11:=lh (X10.out.keep ((aB.drew _).below _));have V11:=lh (V10.out.keep ((aB.drew _).below _));go_region_held3 (fun w'=>Hid (IX W B D xb #[↑xd,↑xi,↑xr,↑xt,.bool xl] w'))
       (first | with_reducible exact (qG M14 X14) | with_reducible exact (qG M13 X13) | with_reducible exact (qG M12 X12) | with_reducible exact (qG M11 X11))
       (first
        | (go_at_call 68;(with_reducible refine (HBy.out _ _ V11.out).mono ?_);rintro e w12 ⟨rfl,hb⟩;have M12:=lh (M11.out.to hb);have X12:=lh (X11.out.keep hb);clear hb)
        | (go_at_call 69;(with_reducible refine (HLo.out _ M12.out.at_).mono ?_);rintro e w13 ⟨rfl,ha⟩;have M13:=lh (M12.out.step ha.out);have X13:=lh (ha.out.2.2 _ (by decide) _ _ X12.out);clear ha)
        | (go_at_call 67;(with_reducible refine (HTe.out _ M13.out.at_).mono ?_);rintro e w14 ⟨rfl,ha⟩;have M14:=lh (M13.out.step ha.out);have X14:=lh (ha.out.2.2 _ (by decide) _ _ X13.out);clear ha))
      go_wp2_with fail;go_ret;exact ⟨rfl,M14.out⟩
    ·rw [if_neg hte]
     generalize s.c.toE now=te at *;have e1:(te == 0)=false:=beq_eq_false_iff_ne.2 hte;have e2:(te != 0)=true:=by simp [hte]
     clear ht hp ho hr hk hm hl hll hu hok hte;go_enter func30,ntmps30;go_wp2_with fail;refine (HPa.out _ M0.out.at_).mono ?_;rintro e w1 ⟨rfl,hb⟩;have M1:=lh (M0.out.to hb);clear hb;go_wp2_with fail;refine (HTi.out _ M1.out.at_).mono ?_;rintro e w2 ⟨rfl,hb⟩;have M2:=lh (M1.out.to hb);clear hb;go_wp2_with fail;refine (HNw.out _).mono ?_;rintro e w3 ⟨rfl,hblk,hb⟩;have M3:=lh (M2.out.to hb);have B3:=lh hblk;have L3:=lh hb;clear hb hblk;go_wp2_with fail;refine (HPu.out _ _ M3.out.bel M3.out.kt B3.out).mono ?_;rintro e w4 ⟨rfl,hf⟩;have M4:=lh (M2.out.to (sO L3.out (Nat.le_refl _) hf));clear hf;have c6:=M4.out.at_.b.cell (i:=6) (v:=↑(π D.c)) rfl;go_wp2_with fail;refine (HC.out _ M4.out.at_).mono ?_;rintro e w5 ⟨rfl,ha⟩;have M5:=lh (M4.out.step ha.out);clear ha c6;go_wp2_with fail;go_ret;exact ⟨rfl,M5.out⟩
 ·rw [hp] at HPa
  rw [if_pos (show true=true from rfl),if_pos (show true=true from rfl)];clear hp ho hr hk hm hl hll hu HNw HPu HC;go_enter func30,ntmps30;go_wp2_with fail;refine (HPa.out _ M0.out.at_).mono ?_;rintro e w1 ⟨rfl,hb⟩;have M1:=lh (M0.out.to hb);clear hb;go_wp2_with fail;go_ret;exact ⟨rfl,M1.out⟩
end Go.Proofs.YtjhiooggnpbecaaGreatDoor
