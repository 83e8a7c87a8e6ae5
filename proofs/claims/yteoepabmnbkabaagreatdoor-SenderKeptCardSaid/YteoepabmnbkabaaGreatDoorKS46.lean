/- 3 texts put together: what each one says stands ahead of it. -/
import Derived.Test.YteoepabmnbkabaaGreatDoorKS45
import Derived.Test.YteoepabmnbkabaaGreatDoorKS42
import Derived.Test.YteoepabmnbkabaaGreatDoorKS27
set_option linter.unusedVariables false
namespace Go.Proofs.YteoepabmnbkabaaGreatDoor
open Go.RowKit Cf
set_option maxHeartbeats 1000000 in
theorem sn_Write {B:Nat} {D:SD} {s:SN} {c:Setup} {k m d:Nat} (n:Nat) (W:World) (h:SndAt W B D s) (ho:s.ok c k m d) (hn:n≤18446744073709551615):
  Calls Tryz.prog 24 #[.pointer (some ⟨D.b,0,none⟩),.int .u64 (n:Int)] W (SPost B D (.returned (.int .i64 (s.writeE n))) (s.writeS n) W):=by
 have hcl:=ho.cl.2
 have hsm:=ho.small
 have HC:Hid (∀w,SndAt w B D s→Calls Tryz.prog 56 #[.pointer (some ⟨D.c,0,none⟩),.int .u64 (n:Int)] w fun e w'=>e=.returned (.int .i64 (s.c.countE n))∧Hid (SndOut w B D {s with c:=s.c.countS n} w')):=Lib.hid (fun w q=>(clock_Count D.c n s.c w q.c hn (by omega)).mono (by rintro e w' hh;exact ⟨hh.e,Lib.hid (q.cl hh.blk hh.gr)⟩))
 have HA:=Lib.hid (add_any s.w n (by omega) hn)
 have M0:=Lib.hid (SndI.start h)
 have p6:=h.b.cell (i:=6) (v:=.pointer (some ⟨D.c,0,none⟩)) rfl
 have HS:Hid (s.writeS n={s with c:=s.c.countS n,w:=if s.c.countE n=0 then Pl.addS s.w n else s.w}):=Lib.hid rfl
 have HE:Hid (s.writeE n=s.c.countE n):=Lib.hid rfl
 rw [HS.out,HE.out]
 clear h ho hcl hsm HS HE
 generalize Pl.addS s.w n=z at *
 generalize s.c.countE n=r at *
 generalize s.c.countS n=c' at *
 by_cases hr:r=0
 ·subst hr
  rw [if_pos rfl]
  go_enter Tryz.func24,Tryz.ntmps24
  go_wp2_with fail
  refine (HC.out _ M0.out.at_).mono ?_
  rintro e w1 ⟨rfl,ha⟩
  have M1:=Lib.hid (M0.out.step ha.out)
  have c12:=M1.out.at_.b.cell (i:=12) (v:=.int .u64 (s.w:Int)) rfl
  have M2:=Lib.hid (M1.out.to (al_be w1 (.cells #[.int .u64 (s.w:Int),.int .u64 (n:Int)] 22)))
  have K2:=Lib.hid (nc2 w1 s.w n 22)
  clear ha
  go_wp2_with fail
  refine (HA.out _ _ K2.out.1 K2.out.2).mono ?_
  rintro e w2 ⟨rfl,hb⟩
  have M3:=Lib.hid (M2.out.to hb)
  clear c12 hb
  have c12:=M3.out.at_.b.cell (i:=12) (v:=.int .u64 (s.w:Int)) rfl
  have y12:=M3.out.at_.b.free 12
  have M4:=Lib.hid (M3.out.step (M3.out.at_.wt z))
  go_wp2_with fail
  go_ret
  exact ⟨rfl,M4.out⟩
 ·rw [if_neg hr]
  have d1:(r == 0)=false:=beq_eq_false_iff_ne.2 hr
  clear hr
  go_enter Tryz.func24,Tryz.ntmps24
  go_wp2_with fail
  refine (HC.out _ M0.out.at_).mono ?_
  rintro e w1 ⟨rfl,ha⟩
  have M1:=Lib.hid (M0.out.step ha.out)
  clear ha
  go_wp2_with fail
  go_ret
  exact ⟨rfl,M1.out⟩
set_option maxHeartbeats 1000000 in
theorem sn_Next {B:Nat} {D:SD} {s:SN} {c:Setup} {k m d:Nat} (W:World) (h:SndAt W B D s) (ho:s.ok c k m d):
  Calls Tryz.prog 21 #[.pointer (some ⟨D.b,0,none⟩)] W fun e w'=>e=.returned (.tuple #[.int .u64 (s.nextT:Int),.bool s.nextB])∧Below W.heap.size W w':=by
 have hsm:=ho.small
 have hsz:s.size≤18446744073709551615:=by unfold SN.size;omega
 have HPa:=Lib.hid (fun w (q:SndAt w B D s)=>sn_Past w q)
 have HSz:=Lib.hid (fun w (q:SndAt w B D s)=>sn_size w q)
 have HFi:=Lib.hid (fun w (q:SndAt w B D s)=>sn_fits s.size w q hsz)
 have HNe:=Lib.hid (fun w (q:SndAt w B D s)=>pc_Next D.p s.size s.p w q.p ho.pok hsz)
 have R0:=Lib.hid (SndR.start h)
 have hf:s.fits=(decide (0 < s.w) && decide (Pl.addS s.size s.L.fl≤s.e.cwnd)):=by
  unfold SN.fits
  rw [show Pl.addS s.L.fl s.size=Pl.addS s.size s.L.fl by unfold Pl.addS;rw [Nat.add_comm]]
 unfold SN.nextT SN.nextB
 rw [hf]
 clear h ho hsm hf hsz
 generalize decide (Pl.addS s.size s.L.fl≤s.e.cwnd)=g at *
 generalize s.p.nextT s.size=nt at *
 generalize s.p.nextB s.size=nb at *
 rcases hp:s.c.p with _ | _
 ·rw [hp] at HPa
  clear hp
  by_cases c0:s.w=0
  ·have d2:decide (0 < s.w)=false:=decide_eq_false (by omega)
   have e0:((s.w:Int) == 0)=true:=by rw [c0];rfl
   rw [d2]
   clear c0 d2
   go_enter Tryz.func21,Tryz.ntmps21
   go_wp2_with fail
   refine (HPa.out _ R0.out.at_).mono ?_
   rintro e w1 ⟨rfl,hb⟩
   have R1:=Lib.hid (R0.out.to hb)
   have c12:=R1.out.at_.b.cell (i:=12) (v:=.int .u64 (s.w:Int)) rfl
   clear hb
   go_wp2_with fail
   go_ret2
   exact ⟨rfl,R1.out.bel⟩
  ·have d2:decide (0 < s.w)=true:=decide_eq_true (by omega)
   have e0:((s.w:Int) == 0)=false:=beq_eq_false_iff_ne.2 (by omega)
   rw [d2]
   clear c0 d2
   cases g
   ·go_enter Tryz.func21,Tryz.ntmps21
    go_wp2_with fail
    refine (HPa.out _ R0.out.at_).mono ?_
    rintro e w1 ⟨rfl,hb⟩
    have R1:=Lib.hid (R0.out.to hb)
    have c12:=R1.out.at_.b.cell (i:=12) (v:=.int .u64 (s.w:Int)) rfl
    clear hb
    go_wp2_with fail
    refine (HSz.out _ R1.out.at_).mono ?_
    rintro e w2 ⟨rfl,hb⟩
    have R2:=Lib.hid (R1.out.to hb)
    clear hb
    go_wp2_with fail
    refine (HFi.out _ R2.out.at_).mono ?_
    rintro e w3 ⟨rfl,hb⟩
    have R3:=Lib.hid (R2.out.to hb)
    clear hb
    go_wp2_with fail
    go_ret2
    exact ⟨rfl,R3.out.bel⟩
   ·go_enter Tryz.func21,Tryz.ntmps21
    go_wp2_with fail
    refine (HPa.out _ R0.out.at_).mono ?_
    rintro e w1 ⟨rfl,hb⟩
    have R1:=Lib.hid (R0.out.to hb)
    have c12:=R1.out.at_.b.cell (i:=12) (v:=.int .u64 (s.w:Int)) rfl
    clear hb
    go_wp2_with fail
    refine (HSz.out _ R1.out.at_).mono ?_
    rintro e w2 ⟨rfl,hb⟩
    have R2:=Lib.hid (R1.out.to hb)
    clear hb
    go_wp2_with fail
    refine (HFi.out _ R2.out.at_).mono ?_
    rintro e w3 ⟨rfl,hb⟩
    have R3:=Lib.hid ((R2.out.to hb).to ((Drawn.drew _).below _))
    clear hb
    go_wp2_with fail
    have p11:=sr_p (W:=W) (B:=B) (D:=D) (s:=s) (i:=11) (v:=.pointer (some ⟨D.p,0,none⟩)) rfl
    go_region_held3 (fun w'=>Hid (SndR W B D s w'))
     (first | with_reducible exact R5 | with_reducible exact R4 | with_reducible exact R3)
     (first
      | (go_at_call 53;(with_reducible refine (HSz.out _ R3.out.at_).mono ?_);rintro e w4 ⟨rfl,hb⟩;have R4:=Lib.hid (R3.out.to hb);clear hb)
      | (go_at_call 54;(with_reducible refine (HNe.out _ R4.out.at_).mono ?_);rintro e w5 ⟨rfl,hb⟩;have R5:=Lib.hid (R4.out.to hb);clear hb))
    go_wp2_with fail
    go_ret2
    exact ⟨rfl,R5.out.bel⟩
 ·rw [hp] at HPa
  clear hp
  go_enter Tryz.func21,Tryz.ntmps21
  go_wp2_with fail
  refine (HPa.out _ R0.out.at_).mono ?_
  rintro e w1 ⟨rfl,hb⟩
  have R1:=Lib.hid (R0.out.to hb)
  clear hb
  go_wp2_with fail
  go_ret2
  exact ⟨rfl,R1.out.bel⟩
set_option maxHeartbeats 1000000 in
theorem sn_Tick_no {B:Nat} {D:SD} {s:SN} (now:Nat) (W:World) (h:SndAt W B D s) (ht:s.c.toE now≠0):
  Calls Tryz.prog 20 #[.pointer (some ⟨D.b,0,none⟩),.int .u64 (now:Int)] W fun e w'=>e=.returned (.tuple #[.slice none 0 0,.int .i64 (s.c.toE now)])∧SndI W B D (s.tim now) w':=by
 have HC:Hid (∀w,SndAt w B D s→Calls Tryz.prog 47 #[.pointer (some ⟨D.c,0,none⟩),.int .u64 (now:Int)] w fun e w'=>e=.returned (.int .i64 (s.c.toE now))∧Hid (SndOut w B D (s.tim now) w')):=Lib.hid (fun w q=>(clock_To D.c now s.c w q.c).mono (by rintro e w' hh;exact ⟨hh.e,Lib.hid (q.cl hh.blk hh.gr)⟩))
 have M0:=Lib.hid (SndI.start h)
 have p6:=h.b.cell (i:=6) (v:=.pointer (some ⟨D.c,0,none⟩)) rfl
 clear h
 generalize s.c.toE now=r at *
 have d1:(r == 0)=false:=beq_eq_false_iff_ne.2 ht
 have d2:(r != 0)=true:=by simp [ht]
 clear ht
 go_enter Tryz.func20,Tryz.ntmps20
 go_wp2_with fail
 refine (HC.out _ M0.out.at_).mono ?_
 rintro e w1 ⟨rfl,ha⟩
 have M1:=Lib.hid (M0.out.step ha.out)
 clear ha
 go_wp2_with fail
 go_ret2
 exact ⟨rfl,M1.out⟩
set_option maxRecDepth 100000 in
set_option maxHeartbeats 4000000 in
theorem sn_Tick_yes {B:Nat} {D:SD} {s:SN} {c:Setup} {k m d:Nat} (now:Nat) (W:World) (h:SndAt W B D s) (ho:s.ok c k m d) (hr:rightC c=true) (hk:k≤900) (hm:m≤5900) (ht:s.c.toE now=0):
  Calls Tryz.prog 20 #[.pointer (some ⟨D.b,0,none⟩),.int .u64 (now:Int)] W fun e w'=>∃v,e=.returned (.tuple #[v,.int .i64 0])∧PRow W.heap.size w' v (s.tickL now)∧SndI W B D (s.tickS now) w':=by
 obtain ⟨y1,y2,y3,y4⟩:=CS.to_yes ht
 have hnow:now≤18446744073709551615:=by omega
 have o0:=SN.to_ok ho now
 have ow:=SN.loss_ok o0
 have op:=(SN.pre_ok ho hr hk now hnow).1
 obtain ⟨oq,_,_,_,_,_,hnx⟩:=SN.paced_ok ho hr hk ht
 obtain ⟨hti,hto⟩:=SN.tick_yes ho hr hk ht
 have e1:s.tickS now=(s.paced now).run.1.rest:=by unfold SN.tickS;rw [if_pos ht]
 have e2:s.tickL now=(s.paced now).run.2:=by unfold SN.tickL;rw [if_pos ht]
 have hlen:(s.paced now).L.next + (s.paced now).run.2.length≤5999:=by
  have h1:=hti.len
  rw [e2] at h1
  have h2:=oq.few
  have h3:=ho.few
  rw [hnx]
  omega
 have hct:(s.tim now).c.t=now:=by show (s.c.toS now).t=now;rw [y1]
 have HC:Hid (∀w,SndAt w B D s→Calls Tryz.prog 47 #[.pointer (some ⟨D.c,0,none⟩),.int .u64 (now:Int)] w fun e w'=>e=.returned (.int .i64 0)∧Hid (SndOut w B D (s.tim now) w')):=Lib.hid (fun w q=>(clock_To D.c now s.c w q.c).mono (by rintro e w' hh;exact ⟨by rw [hh.e,ht],Lib.hid (q.cl hh.blk hh.gr)⟩))
 have HL:Hid (∀w,SndAt w B D (s.tim now)→Calls Tryz.prog 48 #[.pointer (some ⟨D.b,0,none⟩)] w fun e w'=>e=.returned (.int .u64 ((sumP 0 (s.tim now).lostL:Nat):Int))∧Hid (SndOut w B D (s.tim now).loss w')):=Lib.hid (fun w q=>(sn_lose w q o0).mono (by rintro e w' hh;exact ⟨hh.e,Lib.hid ⟨hh.i.at_,hh.i.bel,hh.i.kt⟩⟩))
 have hlo:sumP 0 (s.tim now).lostL≤18446744073709551615:=sumP_le (Nat.zero_le _)
 have HT:Hid ((s.tim now).lostL≠[]→∀w,SndAt w B D (s.tim now).loss→Calls Tryz.prog 49 #[.pointer (some ⟨D.b,0,none⟩),.agg #[.int .u64 0,.int .u64 0,.int .u64 0,.int .u64 0,.int .u64 0,.bool false,.bool false,.int .u64 0,.int .u64 0,.int .u64 ((sumP 0 (s.tim now).lostL:Nat):Int),.int .u64 0]] w fun e w'=>e=.returned (.tuple #[])∧Hid (SndOut w B D (s.pre now) w')):=Lib.hid (fun hne w q=>by
  have hx:EvS.ok ⟨(s.tim now).loss.c.t,0,0,0,0,false,false,(s.tim now).loss.a.n,0,sumP 0 (s.tim now).lostL,(s.tim now).loss.L.fl⟩:=⟨by show (s.tim now).c.t≤_;omega,Nat.zero_le _,Nat.zero_le _,Nat.zero_le _,Nat.zero_le _,ow.a.n,Nat.zero_le _,hlo,SN.fl_le _⟩
  refine (sn_tell w q ow.e hk hx (ES.on_c _ _)).mono ?_
  rintro e w' hh
  have hpre:s.pre now={(s.tim now).loss with e:=(s.tim now).loss.e.on ⟨(s.tim now).loss.c.t,0,0,0,0,false,false,(s.tim now).loss.a.n,0,sumP 0 (s.tim now).lostL,(s.tim now).loss.L.fl⟩}:=by
   have hb:(!(s.tim now).lostL.isEmpty)=true:=by simp [hne]
   have hc2:(s.tim now).loss.c.t=now:=hct
   unfold SN.pre SN.tell
   rw [if_pos hb,hc2]
  rw [hpre]
  exact ⟨hh.e,Lib.hid ⟨hh.i.at_,hh.i.bel,hh.i.kt⟩⟩)
 have HNo:Hid ((s.tim now).lostL=[]→s.pre now=(s.tim now).loss):=Lib.hid (fun he=>by unfold SN.pre SN.tell;rw [he];rfl)
 have HPa:=Lib.hid (fun w (q:SndAt w B D (s.pre now))=>en_Pace w q.e op.e)
 have HQu:=Lib.hid (fun w (q:SndAt w B D (s.pre now))=>en_Quantum w q.e op.e)
 have hpa:(s.pre now).e.pace≤18446744073709551615:=Nat.le_trans (ES.pace_le _) (by omega)
 have hqu:(s.pre now).e.quant≤18446744073709551615:=by have:=op.fr.qm;have:=right_mss hr;omega
 have HTi:Hid (∀w,SndAt w B D (s.pre now)→Calls Tryz.prog 50 #[.pointer (some ⟨D.p,0,none⟩),.int .u64 (now:Int),.int .u64 ((s.pre now).e.pace:Int),.int .u64 ((s.pre now).e.quant:Int)] w fun e w'=>e=.returned (.int .i64 ((s.pre now).p.tickE now))∧Hid (SndOut w B D (s.paced now) w')):=Lib.hid (fun w q=>(pc_Tick D.p now _ _ (s.pre now).p w q.p op.pok hnow hpa hqu).mono (by rintro e w' hh;exact ⟨hh.e,Lib.hid (q.pc hh.blk hh.gr)⟩))
 have HSe:Hid (∀w,SndAt w B D (s.paced now)→Calls Tryz.prog 51 #[.pointer (some ⟨D.b,0,none⟩)] w fun e w'=>∃v,e=.returned v∧PRow w.heap.size w' v (s.tickL now)∧SndI w B D (s.tickS now) w'):=Lib.hid (fun w q=>by rw [e1,e2];exact sn_send w q oq hr hlen)
 have HN:=Lib.hid (SN.lost_sum o0)
 have M0:=Lib.hid (SndI.start h)
 have p6:=h.b.cell (i:=6) (v:=.pointer (some ⟨D.c,0,none⟩)) rfl
 clear h ho hr hk hm ht y1 y2 y3 y4 hnow o0 ow op oq hnx hti hto e1 e2 hlen hct hlo hpa hqu
 generalize s.tickS now=sx at *
 generalize s.tickL now=lx at *
 generalize s.paced now=sq at *
 generalize (s.pre now).e.pace=pa at *
 generalize (s.pre now).e.quant=qu at *
 generalize (s.pre now).p.tickE now=te at *
 generalize s.pre now=sp at *
 generalize (s.tim now).loss=sl at *
 generalize sumP 0 (s.tim now).lostL=n at *
 generalize (s.tim now).lostL=ll at *
 generalize s.tim now=st at *
 go_enter Tryz.func20,Tryz.ntmps20
 go_wp2_with fail
 refine (HC.out _ M0.out.at_).mono ?_
 rintro e w1 ⟨rfl,ha⟩
 have M1:=Lib.hid (M0.out.step ha.out)
 clear ha HC
 go_wp2_with fail
 refine (HL.out _ M1.out.at_).mono ?_
 rintro e w2 ⟨rfl,ha⟩
 have M2:=Lib.hid (M1.out.step ha.out)
 clear ha HL p6
 rcases HN.out with ⟨hL,hn⟩ | ⟨hL,hn⟩
 ·have d1:decide ((0:Int) < (n:Int))=false:=decide_eq_false (by omega)
  have d2:decide (0 < n)=false:=decide_eq_false (by omega)
  have HE:=Lib.hid (HNo.out hL)
  rw [← HE.out] at M2
  clear hL hn HN HNo HT
  have M4:=Lib.hid (M2.out.to ((Drawn.drew _).below _))
  have p11:=sx_p (W:=W) (B:=B) (D:=D) (i:=11) (v:=.pointer (some ⟨D.p,0,none⟩)) (fun _ _=>rfl)
  have p10:=sx_p (W:=W) (B:=B) (D:=D) (i:=10) (v:=.pointer (some ⟨D.e.b,0,none⟩)) (fun _ _=>rfl)
  go_wp2_with fail
  go_region_held3 (fun w'=>Hid (SndX W B D w'))
   (first | with_reducible exact (sx_of M7) | with_reducible exact (sx_of M6) | with_reducible exact (sx_of M5) | with_reducible exact (sx_of M4))
   (first
    | (go_at_call 45;(with_reducible refine (HPa.out _ M4.out.at_).mono ?_);rintro e w5 ⟨rfl,hb⟩;have M5:=Lib.hid (M4.out.to hb);clear hb)
    | (go_at_call 17;(with_reducible refine (HQu.out _ M5.out.at_).mono ?_);rintro e w6 ⟨rfl,hb⟩;have M6:=Lib.hid (M5.out.to hb);clear hb)
    | (go_at_call 50;(with_reducible refine (HTi.out _ M6.out.at_).mono ?_);rintro e w7 ⟨rfl,ha⟩;have M7:=Lib.hid (M6.out.step ha.out);clear ha))
  go_wp2_with fail
  refine (HSe.out _ M7.out.at_).mono ?_
  rintro e w8 ⟨v,rfl,hrow,hi⟩
  have M8:=Lib.hid (M7.out.over hi)
  have RW:=Lib.hid (hrow.mono M7.out.bel.size)
  clear hi hrow
  go_wp2_with fail
  go_ret2
  exact ⟨v,rfl,RW.out,M8.out⟩
 ·have d1:decide ((0:Int) < (n:Int))=true:=decide_eq_true (by omega)
  have d2:decide (0 < n)=true:=decide_eq_true (by omega)
  have HT:=Lib.hid (HT.out hL)
  clear hL hn HN HNo
  go_wp2_with fail
  refine (HT.out _ M2.out.at_).mono ?_
  rintro e w3 ⟨rfl,ha⟩
  have M3:=Lib.hid (M2.out.step ha.out)
  clear ha HT
  have M4:=Lib.hid (M3.out.to ((Drawn.drew _).below _))
  have p11:=sx_p (W:=W) (B:=B) (D:=D) (i:=11) (v:=.pointer (some ⟨D.p,0,none⟩)) (fun _ _=>rfl)
  have p10:=sx_p (W:=W) (B:=B) (D:=D) (i:=10) (v:=.pointer (some ⟨D.e.b,0,none⟩)) (fun _ _=>rfl)
  go_wp2_with fail
  go_region_held3 (fun w'=>Hid (SndX W B D w'))
   (first | with_reducible exact (sx_of M7) | with_reducible exact (sx_of M6) | with_reducible exact (sx_of M5) | with_reducible exact (sx_of M4))
   (first
    | (go_at_call 45;(with_reducible refine (HPa.out _ M4.out.at_).mono ?_);rintro e w5 ⟨rfl,hb⟩;have M5:=Lib.hid (M4.out.to hb);clear hb)
    | (go_at_call 17;(with_reducible refine (HQu.out _ M5.out.at_).mono ?_);rintro e w6 ⟨rfl,hb⟩;have M6:=Lib.hid (M5.out.to hb);clear hb)
    | (go_at_call 50;(with_reducible refine (HTi.out _ M6.out.at_).mono ?_);rintro e w7 ⟨rfl,ha⟩;have M7:=Lib.hid (M6.out.step ha.out);clear ha))
  go_wp2_with fail
  refine (HSe.out _ M7.out.at_).mono ?_
  rintro e w8 ⟨v,rfl,hrow,hi⟩
  have M8:=Lib.hid (M7.out.over hi)
  have RW:=Lib.hid (hrow.mono M7.out.bel.size)
  clear hi hrow
  go_wp2_with fail
  go_ret2
  exact ⟨v,rfl,RW.out,M8.out⟩
theorem sn_Tick {B:Nat} {D:SD} {s:SN} {c:Setup} {k m d:Nat} (now:Nat) (W:World) (h:SndAt W B D s) (ho:s.ok c k m d) (hr:rightC c=true) (hk:k≤900) (hm:m≤5900):
  Calls Tryz.prog 20 #[.pointer (some ⟨D.b,0,none⟩),.int .u64 (now:Int)] W fun e w'=>∃v,e=.returned (.tuple #[v,.int .i64 (s.tickE now)])∧PRow W.heap.size w' v (s.tickL now)∧SndI W B D (s.tickS now) w':=by
 unfold SN.tickE
 by_cases ht:s.c.toE now=0
 ·rw [ht]
  exact sn_Tick_yes now W h ho hr hk hm ht
 ·obtain ⟨t1,t2⟩:=SN.tick_no ht
  rw [t1,t2]
  exact (sn_Tick_no now W h ht).mono fun e w' q=>⟨_,q.1,World.ownsRow_nil _ _ _ 7,q.2⟩
theorem EngAt.mono {w:World} {B B':Nat} {P:EP} {s:ES} (h:EngAt w B P s) (hB:B'≤B) (hl:0 < B'):EngAt w B' P s:=
 ⟨h.e,h.p,by obtain ⟨g,a,b⟩:=h.f;exact ⟨g,Nat.le_trans hB a,b⟩,h.y,h.n,h.gl,hl,⟨Nat.le_trans hB h.own.1,Nat.le_trans hB h.own.2.1,Nat.le_trans hB h.own.2.2.1,Nat.le_trans hB h.own.2.2.2.1,Nat.le_trans hB h.own.2.2.2.2.1,Nat.le_trans hB h.own.2.2.2.2.2⟩⟩
theorem LedAt.mono {w:World} {B B' b:Nat} {L:PL} (h:LedAt w B b L) (hB:B'≤B):LedAt w B' b L:=by
 obtain ⟨rb,g,s,k1,k2,k3,k4,k5,k6,k7,k8⟩:=h
 exact ⟨rb,g,s,k1,k2,k3,k4,k5,k6,k7,fun x hx=>Nat.le_trans hB (k8 x hx)⟩
structure SnewI (W:World) (c:Setup) (P:EP) (w:World):Prop where
 n:NewI W c w
 e:EngAt w W.heap.size P (ES.new c)
theorem SnewI.to {W w w':World} {c:Setup} {P:EP} (h:SnewI W c P w) (k:Below w.heap.size w w'):SnewI W c P w':=⟨⟨h.n.b.keep k,bel_to h.n.bel k h.n.bel.size⟩,h.e.keep k⟩
theorem sw_r {W:World} {c:Setup} {P:EP} {i:Nat} {v:Value} (hv:(ccells c)[i]? =some v):∀w,Hid (SnewI W c P w)→w.cell? ⟨W.heap.size,i,none⟩=some v:=fun w q=>q.out.n.b.cell hv
def SNew (W:World) (c:Setup) (e:Ending) (w:World):Prop:=∃D:SD,e=.returned (.tuple #[.pointer (some ⟨D.b,0,none⟩),.int .i64 0])∧SndAt w W.heap.size D (SN.new c)∧Below W.heap.size W w
set_option maxHeartbeats 2000000 in
theorem sn_New_ok (c:Setup) (hc:∀i,c i≤18446744073709551615) (hr:rightC c=true) (W:World) (hg:Gl W):
  Calls Tryz.prog 9 #[.agg (ccells c)] W (SNew W c):=by
 have HEn:=Lib.hid (fun w (q:Gl w)=>en_New_ok c hc hr w q)
 have HC:=Lib.hid clock_New
 have HL:=Lib.hid (fun w=>led_New (c 2) w (hc 2))
 have HT:=Lib.hid tr_New
 have HA:=Lib.hid ra_New
 have HP:=Lib.hid pc_New
 have N0:Hid (NewI W c (W.alloc (.cells (ccells c) 24))):=Lib.hid ⟨Blk.new W _ _,al_be _ _⟩
 have HG:Hid (Gl (W.alloc (.cells (ccells c) 24))):=Lib.hid (hg.keep (al_be _ _))
 have HLt:=Lib.hid hg.lt
 have v0:=N0.out.b.cell (i:=0) (v:=.int .u64 (c 0:Int)) rfl
 have v1:=N0.out.b.cell (i:=1) (v:=.int .u64 (c 1:Int)) rfl
 have v2:=N0.out.b.cell (i:=2) (v:=.int .u64 (c 2:Int)) rfl
 have v3:=N0.out.b.cell (i:=3) (v:=.int .u64 (c 3:Int)) rfl
 have v4:=N0.out.b.cell (i:=4) (v:=.int .u64 (c 4:Int)) rfl
 have v5:=N0.out.b.cell (i:=5) (v:=.int .u64 (c 5:Int)) rfl
 clear hg hr hc
 have HX:Hid (ccells c=#[.int .u64 (c 0:Int),.int .u64 (c 1:Int),.int .u64 (c 2:Int),.int .u64 (c 3:Int),.int .u64 (c 4:Int),.int .u64 (c 5:Int)]):=Lib.hid rfl
 rw [HX.out] at N0 HEn HG v0 v1 v2 v3 v4 v5 ⊢
 go_enter Tryz.func9,Tryz.ntmps9
 go_wp2_with fail
 refine (HEn.out _ HG.out).mono ?_
 rintro e w1 hp
 obtain ⟨P,rfl,he⟩:=hp.at_
 have hsz:=(al_be W (.cells #[.int .u64 (c 0:Int),.int .u64 (c 1:Int),.int .u64 (c 2:Int),.int .u64 (c 3:Int),.int .u64 (c 4:Int),.int .u64 (c 5:Int)] 24)).size
 have N1:Hid (SnewI W c P w1):=Lib.hid ⟨⟨N0.out.b.keep hp.bel,bel_to N0.out.bel hp.bel N0.out.bel.size⟩,he.mono hsz HLt.out⟩
 clear hp he hsz N0 HG v0 v1 v2 v3 v4 v5 HEn
 have r0:=sw_r (W:=W) (c:=c) (P:=P) (i:=0) (v:=.int .u64 (c 0:Int)) rfl
 have r1:=sw_r (W:=W) (c:=c) (P:=P) (i:=1) (v:=.int .u64 (c 1:Int)) rfl
 have r2:=sw_r (W:=W) (c:=c) (P:=P) (i:=2) (v:=.int .u64 (c 2:Int)) rfl
 have r3:=sw_r (W:=W) (c:=c) (P:=P) (i:=3) (v:=.int .u64 (c 3:Int)) rfl
 have r4:=sw_r (W:=W) (c:=c) (P:=P) (i:=4) (v:=.int .u64 (c 4:Int)) rfl
 have r5:=sw_r (W:=W) (c:=c) (P:=P) (i:=5) (v:=.int .u64 (c 5:Int)) rfl
 go_wp2_with fail
 have N2:=Lib.hid (N1.out.to ((Drawn.drew w1).below _))
 go_region_held3 (fun w'=>Hid (SnewI W c P w'))
  (first | with_reducible exact N2 | with_reducible exact N3 | with_reducible exact N4 | with_reducible exact N5 | with_reducible exact N6 | with_reducible exact N7 | exact Lib.hid (N7.out.to (al_be _ _)))
  (first
   | (go_at_call 29;(with_reducible refine (HC.out _).mono ?_);rintro e w2 ⟨rfl,hb⟩;have N3:Hid (SnewI W c P w2):=(by subst hb;exact Lib.hid (N2.out.to (al_be _ _)));have C3:Hid (Blk w2 w1.heap.size 135 CS.zero.cells):=(by subst hb;exact Lib.hid (Blk.new _ _ _));clear hb)
   | (go_at_call 30;(with_reducible refine (HL.out _).mono ?_);rintro e w3 ⟨lb,rfl,hl,hb⟩;have N4:=Lib.hid (N3.out.to hb);have C4:=Lib.hid (C3.out.keep hb);have L4:=Lib.hid hl;clear hl hb)
   | (go_at_call 31;(with_reducible refine (HT.out _).mono ?_);rintro e w4 ⟨rfl,hb⟩;have K4:Hid (Below w3.heap.size w3 w4):=(by subst hb;exact Lib.hid (al_be _ _));have T5:Hid (Blk w4 w3.heap.size 144 TS.zero.cells):=(by subst hb;exact Lib.hid (Blk.new _ _ _));have N5:=Lib.hid (N4.out.to K4.out);clear hb)
   | (go_at_call 32;(with_reducible refine (HA.out _).mono ?_);rintro e w5 ⟨rfl,hb⟩;have K5:Hid (Below w4.heap.size w4 w5):=(by subst hb;exact Lib.hid (al_be _ _));have A6:Hid (RaAt w5 w4.heap.size RaS.zero):=(by subst hb;exact Lib.hid (Blk.new _ _ _));have N6:=Lib.hid (N5.out.to K5.out);clear hb)
   | (go_at_call 33;(with_reducible refine (HP.out _).mono ?_);rintro e w6 ⟨rfl,hb⟩;have K6:Hid (Below w5.heap.size w5 w6):=(by subst hb;exact Lib.hid (al_be _ _));have P7:Hid (Blk w6 w5.heap.size 150 PS.zero.cells):=(by subst hb;exact Lib.hid (Blk.new _ _ _));have N7:=Lib.hid (N6.out.to K6.out);clear hb))
 have z1:=N1.out.n.bel.size
 have z3:=N4.out.n.bel.size
 have z4:=N5.out.n.bel.size
 have z5:=N6.out.n.bel.size
 have z6:=N7.out.n.bel.size
 have z2:=N3.out.n.bel.size
 have K56:=K5.out.trans (K6.out.mono K5.out.size)
 have K46:=K4.out.trans (K56.mono K4.out.size)
 have EA:SndAt (w6.alloc (.cells (scells ⟨w6.heap.size,w1.heap.size,lb,w3.heap.size,w4.heap.size,w5.heap.size,P⟩ c 0) 73)) W.heap.size ⟨w6.heap.size,w1.heap.size,lb,w3.heap.size,w4.heap.size,w5.heap.size,P⟩ (SN.new c):=
  ⟨Blk.new _ _ _,(C4.out.keep K46).keep (al_be _ _),((L4.out.keep K46).keep (al_be _ _)).mono z2,(T5.out.keep K56).keep (al_be _ _),(Blk.keep (Blk.keep A6.out K6.out) (al_be _ _)),N7.out.e.keep (al_be _ _),P7.out.keep (al_be _ _),⟨z6,z1,z3,z4,z5⟩⟩
 have EB:=bel_to N7.out.n.bel (al_be w6 (.cells (scells ⟨w6.heap.size,w1.heap.size,lb,w3.heap.size,w4.heap.size,w5.heap.size,P⟩ c 0) 73)) z6
 clear N1 N2 N3 N4 N5 N6 N7 C3 C4 L4 T5 A6 P7 K4 K5 K6 K56 K46 z1 z2 z3 z4 z5 z6 HC HL HT HA HP
 go_wp2_with fail
 go_ret2
 exact ⟨_,rfl,EA,EB⟩
end Go.Proofs.YteoepabmnbkabaaGreatDoor

set_option linter.unusedVariables false
namespace Go.Proofs.YteoepabmnbkabaaGreatDoor
open Go.RowKit Cf
theorem Its.below {α:Type} [Itm α] {w w':World} {v:Option Addr} {l:List α} {B:Nat} (h:Its w v l) (k:Below B w w') (hB:0 < l.length→∀a,v=some a→a.block < B):Its w' v l:=by
 intro hp
 obtain ⟨b,off,e,hb,hc⟩:=h hp
 exact ⟨b,off,e,Nat.lt_of_lt_of_le hb k.size,fun i j hi hj=>(k.cell (p:=⟨b,_,Option.none⟩) (show b < B from hB hp _ e)).trans (hc i j hi hj)⟩
theorem fput_any (b:Nat) (l:List Rn) (p:Option Addr) (c:Nat) (w:World) (hb:Blk w b 184 #[.slice none 0 0]) (hl:Its w p l) (hm:l.length≤1000) (hu:∀r∈l,r.u64):
  Calls Tryz.prog 59 #[.pointer (some ⟨b,0,none⟩),.slice p l.length c] w fun e w'=>e=.returned (.int .i64 (if l.all okB=true then 0 else 1))∧Fr w w' [b]:=by
 by_cases ho:l.all okB=true
 ·rw [if_pos ho]
  exact (fput_all b l p c w hb hl hm ho hu).mono fun e w' q=>⟨q.ret,q.fr⟩
 ·rw [if_neg ho]
  have hp:0 < l.length:=by
   cases l with
   | nil=>exact absurd rfl ho
   | cons a r=>simp
  exact (fput_wrong b l p c w hl hp hm (by simpa using ho)).mono fun e w' q=>⟨q.1,Fr.of_below q.2 _⟩
theorem fr_new {w0 w w':World} {b:Nat} (h:Below w0.heap.size w0 w) (hb:w0.heap.size≤b) (k:Fr w w' [b]):Below w0.heap.size w0 w':=
 ⟨k.os.trans h.os,k.tape.trans h.tape,k.output.trans h.output,Nat.le_trans h.size k.size,fun z hz=>(k.block z (Nat.lt_of_lt_of_le hz h.size) (by simp only [List.mem_singleton];omega)).trans (h.block z hz)⟩
theorem PR.kn {w w':World} {v:Value} {l:List Pk} (h:PR w v l) (k:KN stypes w w'):PR w' v l:=by
 refine ⟨h.1,?_⟩
 rcases h.2 with c | ⟨g,cap,cur,e,h1,hb,h2⟩
 ·exact .inl c
 ·exact .inr ⟨g,cap,cur,e,h1,k _ (by decide) _ _ hb,h2⟩
theorem SN.took_none {s:SN} {f:Pk→Bool} (h:s.acked f=[]):s.took f=s:=by
 have e:s.L.out.filter (fun p=>!f p)=s.L.out:=by
  rw [List.filter_eq_self]
  intro p hp
  have h1:p ∉ s.acked f:=by rw [h];simp
  unfold SN.acked at h1
  rw [List.mem_filter] at h1
  cases hf:f p
  ·rfl
  ·exact absurd ⟨hp,hf⟩ h1
 unfold SN.took
 rw [e,h]
 simp
theorem SN.ackG_none {s:SN} {now:Nat} {f:Pk→Bool} (h:s.acked f=[]):s.ackG now f=s:=by
 unfold SN.ackG
 rw [h]
theorem SN.ackG_some {s:SN} {now:Nat} {f:Pk→Bool} {q:Pk} {l:List Pk} (h:s.acked f=q :: l):s.ackG now f=(((s.took f).sampled now q l).loss).told now (s.a.ackT now q l) (sumP 0 (q :: l)) (sumP 0 ((s.took f).sampled now q l).lostL):=by
 unfold SN.ackG
 rw [h]
def AckX (W:World) (B:Nat) (D:SD) (n:Nat) (cs:Array Value) (w:World):Prop:=SndX W B D w∧Blk w n 108 cs
theorem ax_of {W w:World} {B n:Nat} {D:SD} {s:SN} {cs:Array Value} (h:Hid (SndI W B D s w)) (a:Hid (Blk w n 108 cs)):Hid (AckX W B D n cs w):=Lib.hid ⟨⟨s,h.out⟩,a.out⟩
theorem ax_v {W:World} {B n:Nat} {D:SD} {cs:Array Value} {i:Nat} {v:Value} (hv:cs[i]? =some v):∀w,Hid (AckX W B D n cs w)→w.cell? ⟨n,i,none⟩=some v:=fun w q=>q.out.2.cell hv
theorem ax_p {W:World} {B n:Nat} {D:SD} {cs:Array Value} {i:Nat} {v:Value} (hv:∀c m,(scells D c m)[i]? =some v):∀w,Hid (AckX W B D n cs w)→w.cell? ⟨D.b,i,none⟩=some v:=fun w q=>by
 obtain ⟨s,h⟩:=q.out.1
 exact h.at_.b.cell (hv _ _)
set_option maxRecDepth 100000 in
set_option maxHeartbeats 8000000 in
theorem sn_Ack {B:Nat} {D:SD} {s:SN} {c:Setup} {k m d:Nat} (now:Nat) (lp:Option Addr) (lc:Nat) (l:List Rn) (W:World) (h:SndAt W B D s) (ho:s.ok c k m d) (hr:rightC c=true) (hk:k≤900) (hm:m≤5900) (hl:∀w,Below B W w→KN stypes W w→Its w lp l) (hll:l.length≤1000) (hu:∀r∈l,r.u64):
  Calls Tryz.prog 25 #[.pointer (some ⟨D.b,0,none⟩),.int .u64 (now:Int),.slice lp l.length lc] W (SPost B D (.returned (.int .i64 (s.ackE now (l.all okB)))) (s.ackS now (l.all okB) fun p=>hasB l p.n) W):=by
 have HPa:=Lib.hid (fun w (q:SndAt w B D s)=>sn_Past w q)
 have HTi:=Lib.hid (fun w (q:SndAt w B D s)=>sn_Time w q)
 have HNw:=Lib.hid fset_New
 have HPu:Hid (∀w b,Below B W w→KN stypes W w→Blk w b 184 #[.slice none 0 0]→Calls Tryz.prog 59 #[.pointer (some ⟨b,0,none⟩),.slice lp l.length lc] w fun e w'=>e=.returned (.int .i64 (if l.all okB=true then 0 else 1))∧Fr w w' [b]):=Lib.hid (fun w b hb hkn q=>fput_any b l lp lc w q (hl w hb hkn) hll hu)
 have HC:Hid (∀w,SndAt w B D s→Calls Tryz.prog 47 #[.pointer (some ⟨D.c,0,none⟩),.int .u64 (now:Int)] w fun e w'=>e=.returned (.int .i64 (s.c.toE now))∧Hid (SndOut w B D (s.tim now) w')):=Lib.hid (fun w q=>(clock_To D.c now s.c w q.c).mono (by rintro e w' hh;exact ⟨hh.e,Lib.hid (q.cl hh.blk hh.gr)⟩))
 have M0:=Lib.hid (SndI.start h)
 have HH:=Lib.hid h
 clear h
 unfold SN.ackE SN.ackS
 rcases hp:s.c.p with _ | _
 ·rw [hp] at HPa
  rw [if_neg (show ¬ (false=true) by decide),if_neg (show ¬ (false=true) by decide)]
  by_cases ht:now < s.c.t
  ·rw [if_pos ht,if_pos ht]
   have d1:decide (now < s.c.t)=true:=decide_eq_true ht
   clear ht hp ho hr hk hm hl hll hu HNw HPu HC
   go_enter Tryz.func25,Tryz.ntmps25
   go_wp2_with fail
   refine (HPa.out _ M0.out.at_).mono ?_
   rintro e w1 ⟨rfl,hb⟩
   have M1:=Lib.hid (M0.out.to hb)
   clear hb
   go_wp2_with fail
   refine (HTi.out _ M1.out.at_).mono ?_
   rintro e w2 ⟨rfl,hb⟩
   have M2:=Lib.hid (M1.out.to hb)
   clear hb
   go_wp2_with fail
   go_ret
   exact ⟨rfl,M2.out⟩
  ·rw [if_neg ht,if_neg ht]
   have d1:decide (now < s.c.t)=false:=decide_eq_false ht
   rcases hok:l.all okB with _ | _
   ·rw [hok] at HPu
    rw [if_neg (show ¬ (false=true) by decide)] at HPu ⊢
    rw [if_neg (show ¬ (false=true) by decide)]
    clear ht hp ho hr hk hm hl hll hu HC hok
    go_enter Tryz.func25,Tryz.ntmps25
    go_wp2_with fail
    refine (HPa.out _ M0.out.at_).mono ?_
    rintro e w1 ⟨rfl,hb⟩
    have M1:=Lib.hid (M0.out.to hb)
    clear hb
    go_wp2_with fail
    refine (HTi.out _ M1.out.at_).mono ?_
    rintro e w2 ⟨rfl,hb⟩
    have M2:=Lib.hid (M1.out.to hb)
    clear hb
    go_wp2_with fail
    refine (HNw.out _).mono ?_
    rintro e w3 ⟨rfl,hblk,hb⟩
    have M3:=Lib.hid (M2.out.to hb)
    have B3:=Lib.hid hblk
    have L3:=Lib.hid hb
    clear hb hblk
    go_wp2_with fail
    refine (HPu.out _ _ M3.out.bel M3.out.kt B3.out).mono ?_
    rintro e w4 ⟨rfl,hf⟩
    have M4:=Lib.hid (M2.out.to (fr_new L3.out (Nat.le_refl _) hf))
    clear hf
    go_wp2_with fail
    go_ret
    exact ⟨rfl,M4.out⟩
   ·rw [hok] at HPu
    rw [if_pos (show true=true from rfl)] at HPu ⊢
    rw [if_pos (show true=true from rfl)]
    by_cases hte:s.c.toE now=0
    ·rw [hte] at HC ⊢
     rw [if_pos rfl]
     obtain ⟨y1,y2,y3,y4⟩:=CS.to_yes hte
     have hnow:now≤18446744073709551615:=by omega
     have hct:(s.tim now).c.t=now:=by show (s.c.toS now).t=now;rw [y1]
     have o1:=SN.to_ok ho now
     obtain ⟨o2,_⟩:=SN.took_ok o1 (fun p=>hasB l p.n)
     have HAk:Hid (∀w,SndAt w B D (s.tim now)→Below B W w→KN stypes W w→Calls Tryz.prog 60 #[.pointer (some ⟨D.l,0,none⟩),.slice lp l.length lc] w fun e w'=>∃v,e=.returned (.tuple #[v,.int .i64 0])∧Hid (PR w' v ((s.tim now).acked fun p=>hasB l p.n))∧Hid (SndOut w B D ((s.tim now).took fun p=>hasB l p.n) w')):=Lib.hid (fun w q hb hkn=>(led_Ack q.l lp lc l (hl w hb hkn) hll hok hu).mono (by rintro e w' ⟨v,rfl,h1,h2,h3,h4,h5⟩;exact ⟨v,rfl,Lib.hid h1,Lib.hid (q.led h3 h4 h5)⟩))
     have HU:Hid (∀p∈(s.tim now).acked fun p=>hasB l p.n,p.u64):=Lib.hid (fun p hp=>SN.u64 o1 hr (by omega) ((List.mem_filter.1 hp).1))
     rcases hac:(s.tim now).acked (fun p=>hasB l p.n) with _ | ⟨q,lq⟩
     ·rw [SN.ackG_none hac]
      rw [hac] at HAk
      rw [SN.took_none hac] at HAk
      have HRa:Hid (∀w p c,Calls Tryz.prog 61 #[.pointer (some ⟨D.a,0,none⟩),.int .u64 (now:Int),.slice p 0 c] w fun e w'=>e=.returned (.tuple #[.agg #[.int .u64 0,.int .u64 0,.int .u64 0,.int .u64 0,.bool false],.bool false])∧Below w.heap.size w w'):=Lib.hid (fun w p c=>ra_Ack_none D.a c p (.int .u64 (now:Int)) w)
      clear ht hp ho hr hk hm hl hll hu y1 y2 y3 y4 hnow hct o1 o2 HU hac hok hte
      generalize s.tim now=st at *
      have p6:=HH.out.b.cell (i:=6) (v:=.pointer (some ⟨D.c,0,none⟩)) rfl
      clear p6
      go_enter Tryz.func25,Tryz.ntmps25
      go_wp2_with fail
      refine (HPa.out _ M0.out.at_).mono ?_
      rintro e w1 ⟨rfl,hb⟩
      have M1:=Lib.hid (M0.out.to hb)
      clear hb
      go_wp2_with fail
      refine (HTi.out _ M1.out.at_).mono ?_
      rintro e w2 ⟨rfl,hb⟩
      have M2:=Lib.hid (M1.out.to hb)
      clear hb
      go_wp2_with fail
      refine (HNw.out _).mono ?_
      rintro e w3 ⟨rfl,hblk,hb⟩
      have M3:=Lib.hid (M2.out.to hb)
      have B3:=Lib.hid hblk
      have L3:=Lib.hid hb
      clear hb hblk
      go_wp2_with fail
      refine (HPu.out _ _ M3.out.bel M3.out.kt B3.out).mono ?_
      rintro e w4 ⟨rfl,hf⟩
      have M4:=Lib.hid (M2.out.to (fr_new L3.out (Nat.le_refl _) hf))
      clear hf
      have c6:=M4.out.at_.b.cell (i:=6) (v:=.pointer (some ⟨D.c,0,none⟩)) rfl
      go_wp2_with fail
      refine (HC.out _ M4.out.at_).mono ?_
      rintro e w5 ⟨rfl,ha⟩
      have M5:=Lib.hid (M4.out.step ha.out)
      have c7:=M5.out.at_.b.cell (i:=7) (v:=.pointer (some ⟨D.l,0,none⟩)) rfl
      clear ha c6
      go_wp2_with fail
      refine (HAk.out _ M5.out.at_ M5.out.bel M5.out.kt).mono ?_
      rintro e w6 ⟨v,rfl,hv,ha⟩
      obtain ⟨vp,vc,rfl⟩:=hv.out.form
      have M6:=Lib.hid (M5.out.step ha.out)
      have c9:=M6.out.at_.b.cell (i:=9) (v:=.pointer (some ⟨D.a,0,none⟩)) rfl
      clear ha c7 hv
      go_wp2_with fail
      refine (HRa.out _ _ _).mono ?_
      rintro e w7 ⟨rfl,hb⟩
      have M7:=Lib.hid (M6.out.to hb)
      have M8:=Lib.hid (M7.out.to (al_be w7 (.cells #[.int .u64 0,.int .u64 0,.int .u64 0,.int .u64 0,.bool false] 108)))
      clear hb c9
      go_wp2_with fail
      go_ret
      exact ⟨rfl,M8.out⟩
     ·rw [SN.ackG_some hac]
      rw [hac] at HAk HU
      have hx:=smp_le o1.a hnow HU.out
      have o3:=SN.sampled_ok o2 hnow HU.out
      have o4:=SN.loss_ok o3
      have hac2:sumP 0 (q :: lq)≤18446744073709551615:=sumP_le (Nat.zero_le _)
      have hlo2:sumP 0 (((s.tim now).took fun p=>hasB l p.n).sampled now q lq).lostL≤18446744073709551615:=sumP_le (Nat.zero_le _)
      have HRa:Hid (∀w p c,SndAt w B D ((s.tim now).took fun p=>hasB l p.n)→PR w (.slice p (lq.length + 1) c) (q :: lq)→Calls Tryz.prog 61 #[.pointer (some ⟨D.a,0,none⟩),.int .u64 (now:Int),.slice p (lq.length + 1) c] w fun e w'=>e=.returned (.tuple #[.agg #[.int .u64 (((s.tim now).a.ackT now q lq).deliv:Int),.int .u64 (((s.tim now).a.ackT now q lq).interval:Int),.int .u64 (((s.tim now).a.ackT now q lq).rate:Int),.int .u64 (((s.tim now).a.ackT now q lq).rtt:Int),.bool ((s.tim now).a.ackT now q lq).lim],.bool true])∧Hid (SndOut w B D {((s.tim now).took fun p=>hasB l p.n) with a:=(s.tim now).a.ack now q lq} w')):=Lib.hid (fun w p c qq hpr=>by
       obtain ⟨p',c',e,h1,h2⟩:=hpr.form2
       have e1:c=c':=by injection e
       subst e1
       exact (ra_Ack D.a now c p q lq (s.tim now).a w qq.a o1.a hnow hpr.its HU.out (fun a ea=>by
        subst ea
        obtain ⟨cs,hb⟩:=hpr.blk (g:=a.block) rfl
        exact hb.ty qq.a (by decide)) (by simpa using h1) h2).mono (by rintro e w' hh;exact ⟨hh.e,Lib.hid (qq.ra hh.blk hh.gr)⟩))
      have HTr:Hid (∀w,SndAt w B D {((s.tim now).took fun p=>hasB l p.n) with a:=(s.tim now).a.ack now q lq}→Calls Tryz.prog 62 #[.pointer (some ⟨D.t,0,none⟩),.int .u64 (((s.tim now).a.ackT now q lq).rtt:Int)] w fun e w'=>e=.returned (.tuple #[])∧Hid (SndOut w B D (((s.tim now).took fun p=>hasB l p.n).sampled now q lq) w')):=Lib.hid (fun w qq=>(tr_Put D.t _ (s.tim now).t w qq.t o1.t hx.2.2.2).mono (by rintro e w' hh;exact ⟨hh.e,Lib.hid (qq.tr hh.blk hh.gr)⟩))
      have HBy:=Lib.hid (fun w v (qq:PR w v (q :: lq))=>sn_bytes_row (q :: lq) w qq (fun x hx=>(HU.out x hx).size))
      have HLo:Hid (∀w,SndAt w B D (((s.tim now).took fun p=>hasB l p.n).sampled now q lq)→Calls Tryz.prog 48 #[.pointer (some ⟨D.b,0,none⟩)] w fun e w'=>e=.returned (.int .u64 ((sumP 0 (((s.tim now).took fun p=>hasB l p.n).sampled now q lq).lostL:Nat):Int))∧Hid (SndOut w B D (((s.tim now).took fun p=>hasB l p.n).sampled now q lq).loss w')):=Lib.hid (fun w qq=>(sn_lose w qq o3).mono (by rintro e w' hh;exact ⟨hh.e,Lib.hid ⟨hh.i.at_,hh.i.bel,hh.i.kt⟩⟩))
      have HTe:Hid (∀w,SndAt w B D (((s.tim now).took fun p=>hasB l p.n).sampled now q lq).loss→Calls Tryz.prog 49 #[.pointer (some ⟨D.b,0,none⟩),.agg #[.int .u64 0,.int .u64 (((s.tim now).a.ackT now q lq).deliv:Int),.int .u64 (((s.tim now).a.ackT now q lq).interval:Int),.int .u64 (((s.tim now).a.ackT now q lq).rate:Int),.int .u64 (((s.tim now).a.ackT now q lq).rtt:Int),.bool ((s.tim now).a.ackT now q lq).lim,.bool true,.int .u64 0,.int .u64 ((sumP 0 (q :: lq):Nat):Int),.int .u64 ((sumP 0 (((s.tim now).took fun p=>hasB l p.n).sampled now q lq).lostL:Nat):Int),.int .u64 0]] w fun e w'=>e=.returned (.tuple #[])∧Hid (SndOut w B D ((((s.tim now).took fun p=>hasB l p.n).sampled now q lq).loss.told now ((s.tim now).a.ackT now q lq) (sumP 0 (q :: lq)) (sumP 0 (((s.tim now).took fun p=>hasB l p.n).sampled now q lq).lostL)) w')):=Lib.hid (fun w qq=>by
       have hv:EvS.ok ⟨(((s.tim now).took fun p=>hasB l p.n).sampled now q lq).loss.c.t,((s.tim now).a.ackT now q lq).deliv,((s.tim now).a.ackT now q lq).interval,((s.tim now).a.ackT now q lq).rate,((s.tim now).a.ackT now q lq).rtt,((s.tim now).a.ackT now q lq).lim,true,(((s.tim now).took fun p=>hasB l p.n).sampled now q lq).loss.a.n,sumP 0 (q :: lq),sumP 0 (((s.tim now).took fun p=>hasB l p.n).sampled now q lq).lostL,(((s.tim now).took fun p=>hasB l p.n).sampled now q lq).loss.L.fl⟩:=⟨by show (s.tim now).c.t≤_;omega,hx.1,hx.2.1,hx.2.2.1,hx.2.2.2,o4.a.n,hac2,hlo2,SN.fl_le _⟩
       refine (sn_tell w qq o4.e hk hv (ES.on_c _ _)).mono ?_
       rintro e w' hh
       have hc2:(((s.tim now).took fun p=>hasB l p.n).sampled now q lq).loss.c.t=now:=hct
       have he:(((s.tim now).took fun p=>hasB l p.n).sampled now q lq).loss.told now ((s.tim now).a.ackT now q lq) (sumP 0 (q :: lq)) (sumP 0 (((s.tim now).took fun p=>hasB l p.n).sampled now q lq).lostL)={(((s.tim now).took fun p=>hasB l p.n).sampled now q lq).loss with e:=(((s.tim now).took fun p=>hasB l p.n).sampled now q lq).loss.e.on ⟨(((s.tim now).took fun p=>hasB l p.n).sampled now q lq).loss.c.t,((s.tim now).a.ackT now q lq).deliv,((s.tim now).a.ackT now q lq).interval,((s.tim now).a.ackT now q lq).rate,((s.tim now).a.ackT now q lq).rtt,((s.tim now).a.ackT now q lq).lim,true,(((s.tim now).took fun p=>hasB l p.n).sampled now q lq).loss.a.n,sumP 0 (q :: lq),sumP 0 (((s.tim now).took fun p=>hasB l p.n).sampled now q lq).lostL,(((s.tim now).took fun p=>hasB l p.n).sampled now q lq).loss.L.fl⟩}:=by
        unfold SN.told
        rw [hc2]
       rw [he]
       exact ⟨hh.e,Lib.hid ⟨hh.i.at_,hh.i.bel,hh.i.kt⟩⟩)
      clear ht hp ho hr hk hm hl hll hu y1 y2 y3 y4 hnow hct o1 o2 o3 o4 HU hac hok hte hx hac2 hlo2
      generalize (((s.tim now).took fun p=>hasB l p.n).sampled now q lq).loss.told now ((s.tim now).a.ackT now q lq) (sumP 0 (q :: lq)) (sumP 0 (((s.tim now).took fun p=>hasB l p.n).sampled now q lq).lostL)=s5 at *
      generalize (((s.tim now).took fun p=>hasB l p.n).sampled now q lq).loss=s4 at *
      generalize sumP 0 (((s.tim now).took fun p=>hasB l p.n).sampled now q lq).lostL=lo at *
      generalize ((s.tim now).took fun p=>hasB l p.n).sampled now q lq=s3 at *
      generalize ({((s.tim now).took fun p=>hasB l p.n) with a:=(s.tim now).a.ack now q lq}:SN)=s2 at *
      generalize ((s.tim now).took fun p=>hasB l p.n)=s1 at *
      generalize sumP 0 (q :: lq)=ac at *
      generalize ((s.tim now).a.ackT now q lq).deliv=xd at *
      generalize ((s.tim now).a.ackT now q lq).interval=xi at *
      generalize ((s.tim now).a.ackT now q lq).rate=xr at *
      generalize ((s.tim now).a.ackT now q lq).rtt=xt at *
      generalize ((s.tim now).a.ackT now q lq).lim=xl at *
      generalize s.tim now=st at *
      go_enter Tryz.func25,Tryz.ntmps25
      go_wp2_with fail
      refine (HPa.out _ M0.out.at_).mono ?_
      rintro e w1 ⟨rfl,hb⟩
      have M1:=Lib.hid (M0.out.to hb)
      clear hb
      go_wp2_with fail
      refine (HTi.out _ M1.out.at_).mono ?_
      rintro e w2 ⟨rfl,hb⟩
      have M2:=Lib.hid (M1.out.to hb)
      clear hb
      go_wp2_with fail
      refine (HNw.out _).mono ?_
      rintro e w3 ⟨rfl,hblk,hb⟩
      have M3:=Lib.hid (M2.out.to hb)
      have B3:=Lib.hid hblk
      have L3:=Lib.hid hb
      clear hb hblk
      go_wp2_with fail
      refine (HPu.out _ _ M3.out.bel M3.out.kt B3.out).mono ?_
      rintro e w4 ⟨rfl,hf⟩
      have M4:=Lib.hid (M2.out.to (fr_new L3.out (Nat.le_refl _) hf))
      clear hf
      have c6:=M4.out.at_.b.cell (i:=6) (v:=.pointer (some ⟨D.c,0,none⟩)) rfl
      go_wp2_with fail
      refine (HC.out _ M4.out.at_).mono ?_
      rintro e w5 ⟨rfl,ha⟩
      have M5:=Lib.hid (M4.out.step ha.out)
      have c7:=M5.out.at_.b.cell (i:=7) (v:=.pointer (some ⟨D.l,0,none⟩)) rfl
      clear ha c6
      go_wp2_with fail
      refine (HAk.out _ M5.out.at_ M5.out.bel M5.out.kt).mono ?_
      rintro e w6 ⟨v,rfl,hv,ha⟩
      obtain ⟨vp,vc,rfl⟩:=hv.out.form
      have M6:=Lib.hid (M5.out.step ha.out)
      have c9:=M6.out.at_.b.cell (i:=9) (v:=.pointer (some ⟨D.a,0,none⟩)) rfl
      have hv:Hid (PR w6 (.slice vp (lq.length + 1) vc) (q :: lq)):=hv
      clear ha c7
      go_wp2_with fail
      refine (HRa.out _ _ _ M6.out.at_ hv.out).mono ?_
      rintro e w7 ⟨rfl,ha⟩
      have M7:=Lib.hid (M6.out.step ha.out)
      have V7:=Lib.hid (hv.out.kn ha.out.2.2)
      have M8:=Lib.hid (M7.out.to (al_be w7 (.cells #[.int .u64 (xd:Int),.int .u64 (xi:Int),.int .u64 (xr:Int),.int .u64 (xt:Int),.bool xl] 108)))
      have V8:=Lib.hid (V7.out.keep (al_be w7 (.cells #[.int .u64 (xd:Int),.int .u64 (xi:Int),.int .u64 (xr:Int),.int .u64 (xt:Int),.bool xl] 108)))
      have X8:=Lib.hid (Blk.new w7 108 #[.int .u64 (xd:Int),.int .u64 (xi:Int),.int .u64 (xr:Int),.int .u64 (xt:Int),.bool xl])
      clear ha c9 hv
      go_wp2_with fail
      generalize w7.alloc (.cells #[.int .u64 (xd:Int),.int .u64 (xi:Int),.int .u64 (xr:Int),.int .u64 (xt:Int),.bool xl] 108)=w8 at *
      obtain ⟨xb,hxb⟩:∃xb,w7.heap.size=xb:=⟨_,rfl⟩
      simp only [hxb] at *
      clear hxb
      have M9:=Lib.hid (M8.out.to ((Drawn.drew _).below _))
      have X9:=Lib.hid (X8.out.keep ((Drawn.drew _).below _))
      have V9:=Lib.hid (V8.out.keep ((Drawn.drew _).below _))
      have r0:=ax_v (W:=W) (B:=B) (D:=D) (n:=xb) (cs:=#[.int .u64 (xd:Int),.int .u64 (xi:Int),.int .u64 (xr:Int),.int .u64 (xt:Int),.bool xl]) (i:=0) (v:=.int .u64 (xd:Int)) rfl
      have r1:=ax_v (W:=W) (B:=B) (D:=D) (n:=xb) (cs:=#[.int .u64 (xd:Int),.int .u64 (xi:Int),.int .u64 (xr:Int),.int .u64 (xt:Int),.bool xl]) (i:=1) (v:=.int .u64 (xi:Int)) rfl
      have r2:=ax_v (W:=W) (B:=B) (D:=D) (n:=xb) (cs:=#[.int .u64 (xd:Int),.int .u64 (xi:Int),.int .u64 (xr:Int),.int .u64 (xt:Int),.bool xl]) (i:=2) (v:=.int .u64 (xr:Int)) rfl
      have r3:=ax_v (W:=W) (B:=B) (D:=D) (n:=xb) (cs:=#[.int .u64 (xd:Int),.int .u64 (xi:Int),.int .u64 (xr:Int),.int .u64 (xt:Int),.bool xl]) (i:=3) (v:=.int .u64 (xt:Int)) rfl
      have r4:=ax_v (W:=W) (B:=B) (D:=D) (n:=xb) (cs:=#[.int .u64 (xd:Int),.int .u64 (xi:Int),.int .u64 (xr:Int),.int .u64 (xt:Int),.bool xl]) (i:=4) (v:=.bool xl) rfl
      have r8:=ax_p (W:=W) (B:=B) (D:=D) (n:=xb) (cs:=#[.int .u64 (xd:Int),.int .u64 (xi:Int),.int .u64 (xr:Int),.int .u64 (xt:Int),.bool xl]) (i:=8) (v:=.pointer (some ⟨D.t,0,none⟩)) (fun _ _=>rfl)
      go_region_held3 (fun w'=>Hid (AckX W B D xb #[.int .u64 (xd:Int),.int .u64 (xi:Int),.int .u64 (xr:Int),.int .u64 (xt:Int),.bool xl] w'))
       (first | with_reducible exact (ax_of M10 X10) | with_reducible exact (ax_of M9 X9))
       (first
        | (go_at_call 62;(with_reducible refine (HTr.out _ M9.out.at_).mono ?_);rintro e w10 ⟨rfl,ha⟩;have M10:=Lib.hid (M9.out.step ha.out);have X10:=Lib.hid (ha.out.2.2 _ (by decide) _ _ X9.out);have V10:=Lib.hid (V9.out.kn ha.out.2.2);clear ha))
      go_wp2_with fail
      have M11:=Lib.hid (M10.out.to ((Drawn.drew _).below _))
      have X11:=Lib.hid (X10.out.keep ((Drawn.drew _).below _))
      have V11:=Lib.hid (V10.out.keep ((Drawn.drew _).below _))
      go_region_held3 (fun w'=>Hid (AckX W B D xb #[.int .u64 (xd:Int),.int .u64 (xi:Int),.int .u64 (xr:Int),.int .u64 (xt:Int),.bool xl] w'))
       (first | with_reducible exact (ax_of M14 X14) | with_reducible exact (ax_of M13 X13) | with_reducible exact (ax_of M12 X12) | with_reducible exact (ax_of M11 X11))
       (first
        | (go_at_call 63;(with_reducible refine (HBy.out _ _ V11.out).mono ?_);rintro e w12 ⟨rfl,hb⟩;have M12:=Lib.hid (M11.out.to hb);have X12:=Lib.hid (X11.out.keep hb);clear hb)
        | (go_at_call 48;(with_reducible refine (HLo.out _ M12.out.at_).mono ?_);rintro e w13 ⟨rfl,ha⟩;have M13:=Lib.hid (M12.out.step ha.out);have X13:=Lib.hid (ha.out.2.2 _ (by decide) _ _ X12.out);clear ha)
        | (go_at_call 49;(with_reducible refine (HTe.out _ M13.out.at_).mono ?_);rintro e w14 ⟨rfl,ha⟩;have M14:=Lib.hid (M13.out.step ha.out);have X14:=Lib.hid (ha.out.2.2 _ (by decide) _ _ X13.out);clear ha))
      go_wp2_with fail
      go_ret
      exact ⟨rfl,M14.out⟩
    ·rw [if_neg hte]
     generalize s.c.toE now=te at *
     have e1:(te == 0)=false:=beq_eq_false_iff_ne.2 hte
     have e2:(te != 0)=true:=by simp [hte]
     clear ht hp ho hr hk hm hl hll hu hok hte
     go_enter Tryz.func25,Tryz.ntmps25
     go_wp2_with fail
     refine (HPa.out _ M0.out.at_).mono ?_
     rintro e w1 ⟨rfl,hb⟩
     have M1:=Lib.hid (M0.out.to hb)
     clear hb
     go_wp2_with fail
     refine (HTi.out _ M1.out.at_).mono ?_
     rintro e w2 ⟨rfl,hb⟩
     have M2:=Lib.hid (M1.out.to hb)
     clear hb
     go_wp2_with fail
     refine (HNw.out _).mono ?_
     rintro e w3 ⟨rfl,hblk,hb⟩
     have M3:=Lib.hid (M2.out.to hb)
     have B3:=Lib.hid hblk
     have L3:=Lib.hid hb
     clear hb hblk
     go_wp2_with fail
     refine (HPu.out _ _ M3.out.bel M3.out.kt B3.out).mono ?_
     rintro e w4 ⟨rfl,hf⟩
     have M4:=Lib.hid (M2.out.to (fr_new L3.out (Nat.le_refl _) hf))
     clear hf
     have c6:=M4.out.at_.b.cell (i:=6) (v:=.pointer (some ⟨D.c,0,none⟩)) rfl
     go_wp2_with fail
     refine (HC.out _ M4.out.at_).mono ?_
     rintro e w5 ⟨rfl,ha⟩
     have M5:=Lib.hid (M4.out.step ha.out)
     clear ha c6
     go_wp2_with fail
     go_ret
     exact ⟨rfl,M5.out⟩
 ·rw [hp] at HPa
  rw [if_pos (show true=true from rfl),if_pos (show true=true from rfl)]
  clear hp ho hr hk hm hl hll hu HNw HPu HC
  go_enter Tryz.func25,Tryz.ntmps25
  go_wp2_with fail
  refine (HPa.out _ M0.out.at_).mono ?_
  rintro e w1 ⟨rfl,hb⟩
  have M1:=Lib.hid (M0.out.to hb)
  clear hb
  go_wp2_with fail
  go_ret
  exact ⟨rfl,M1.out⟩
end Go.Proofs.YteoepabmnbkabaaGreatDoor

set_option linter.unusedVariables false
namespace Go.Proofs.YteoepabmnbkabaaGreatDoor
open Go.RowKit Cf
def aS1:SN:=(SN.new defC).writeS 4000
def aS2:SN:=aS1.tickS 0
def aS3:SN:=aS2.tickS 37
def aS4:SN:=aS3.ackS 40000 true (fun p=>hasB [⟨0,1⟩] p.n)
def aP:Pk:=⟨0,1500,37,37,0,37,false⟩
theorem aS_math:(SN.new defC).writeE 4000=0∧aS1.c.toE 0=0∧aS1.tickL 0=[]∧aS2.nextT=37∧aS2.nextB=true∧aS2.c.toE 37=0∧aS2.tickL 37=[aP]∧aS3.ackE 40000 true=0∧aS4.L.fl=0∧aS4.w=2500∧aS4.e.trip=39963:=by
 refine ⟨?_,?_,?_,?_,?_,?_,?_,?_,?_,?_,?_⟩ <;> kernel_rfl
theorem PRow.at1 {n:Nat} {w:World} {v:Value} {p:Pk} {l:List Pk} (h:PRow n w v (p :: l)):∃g c,v=.slice (some ⟨g,0,none⟩) (l.length + 1) c:=by
 rcases h.2 with ⟨_,e⟩ | ⟨g,cap,cur,e,_⟩
 ·simp at e
 ·exact ⟨g,cap,e⟩
theorem PRow.cell {n g c k:Nat} {w:World} {l:List Pk} (h:PRow n w (.slice (some ⟨g,0,none⟩) l.length c) l) (hk:k < l.length):∀j,j < 7→w.cell? ⟨g,k * 7 + j,none⟩=(Pk.cs (l.getD k Itm.z))[j]?:=by
 obtain ⟨b,off,e,_,hc⟩:=h.pr.its (by omega)
 injection e with e
 injection e with e1 e2
 subst e1 e2
 exact pk_cells hc hk (by omega)
set_option maxRecDepth 100000 in
set_option maxHeartbeats 8000000 in
theorem alive17 (W:World) (hg:Gl W):Calls Tryz.prog 8 #[] W fun e w'=>e=.returned (.bool true)∧Below W.heap.size W w':=by
 obtain ⟨m1,m2,m3,m4,m5,m6,m7,m8,m9,m10,m11⟩:=aS_math
 have o0:=SN.new_ok defC_right defC_le
 have o1:aS1.ok defC 0 0 0:=SN.write_ok o0 4000
 have o2:aS2.ok defC 1 65 0:=(SN.tick_yes o1 defC_right (by omega) m2).2
 have o3:aS3.ok defC 2 130 0:=(SN.tick_yes o2 defC_right (by omega) m6).2
 have HD:=Lib.hid (conf_Default W)
 have HN:=Lib.hid (fun w hg=>sn_New_ok defC defC_le defC_right w hg)
 have HG:=Lib.hid hg
 have HWr:Hid (∀B D w,SndAt w B D (SN.new defC)→Calls Tryz.prog 24 #[.pointer (some ⟨D.b,0,none⟩),.int .u64 4000] w (SPost B D (.returned (.int .i64 0)) aS1 w)):=Lib.hid (fun B D w q=>by rw [← m1];exact sn_Write 4000 w q o0 (by omega))
 have HT1:Hid (∀B D w,SndAt w B D aS1→Calls Tryz.prog 20 #[.pointer (some ⟨D.b,0,none⟩),.int .u64 0] w fun e w'=>∃p c,e=.returned (.tuple #[.slice p 0 c,.int .i64 0])∧SndI w B D aS2 w'):=Lib.hid (fun B D w q=>(sn_Tick 0 w q o1 defC_right (by omega) (by omega)).mono (by
  rintro e w' ⟨v,rfl,hrow,hi⟩
  rw [m3] at hrow
  obtain ⟨p,c,rfl⟩:=hrow.pr.form
  exact ⟨p,c,by unfold SN.tickE;rw [m2];rfl,hi⟩))
 have HNe:Hid (∀B D w,SndAt w B D aS2→Calls Tryz.prog 21 #[.pointer (some ⟨D.b,0,none⟩)] w fun e w'=>e=.returned (.tuple #[.int .u64 37,.bool true])∧Below w.heap.size w w'):=Lib.hid (fun B D w q=>by have hh:=sn_Next w q o2;rw [m4,m5] at hh;exact hh)
 have HT2:Hid (∀B D w,SndAt w B D aS2→Calls Tryz.prog 20 #[.pointer (some ⟨D.b,0,none⟩),.int .u64 37] w fun e w'=>∃g c,e=.returned (.tuple #[.slice (some ⟨g,0,none⟩) 1 c,.int .i64 0])∧Hid (PRow w.heap.size w' (.slice (some ⟨g,0,none⟩) 1 c) [aP])∧SndI w B D aS3 w'):=Lib.hid (fun B D w q=>(sn_Tick 37 w q o2 defC_right (by omega) (by omega)).mono (by
  rintro e w' ⟨v,rfl,hrow,hi⟩
  rw [m7] at hrow
  obtain ⟨g,c,rfl⟩:=hrow.at1
  exact ⟨g,c,by unfold SN.tickE;rw [m6];rfl,Lib.hid hrow,hi⟩))
 have HAk:Hid (∀B D w b,SndAt w B D aS3→Blk w b 59 #[.int .u64 0,.int .u64 1]→Calls Tryz.prog 25 #[.pointer (some ⟨D.b,0,none⟩),.int .u64 40000,.slice (some ⟨b,0,none⟩) 1 1] w (SPost B D (.returned (.int .i64 0)) aS4 w)):=Lib.hid (fun B D w b q hb=>by
  have hh:=sn_Ack 40000 (some ⟨b,0,none⟩) 1 [⟨0,1⟩] w q o3 defC_right (by omega) (by omega) (fun w' _ hk=>Its.of_blk (T:=59) (l:=[(⟨0,1⟩:Rn)]) (hk _ (by decide) _ _ hb)) (by decide) (fun r hr=>by rw [List.mem_singleton.1 hr];exact ⟨by decide,by decide⟩)
  have e1:([⟨0,1⟩]:List Rn).all okB=true:=by decide
  rw [e1,m8] at hh
  exact hh)
 have HIn:Hid (∀B D w,SndAt w B D aS4→Calls Tryz.prog 18 #[.pointer (some ⟨D.b,0,none⟩)] w fun e w'=>e=.returned (.int .u64 0)∧Below w.heap.size w w'):=Lib.hid (fun B D w q=>by have hh:=sn_InFlight w q;rw [m9] at hh;exact hh)
 have HWt:Hid (∀B D w,SndAt w B D aS4→Calls Tryz.prog 22 #[.pointer (some ⟨D.b,0,none⟩)] w fun e w'=>e=.returned (.int .u64 2500)∧Below w.heap.size w w'):=Lib.hid (fun B D w q=>by have hh:=sn_Waiting w q;rw [m10] at hh;exact hh)
 have HEg:=Lib.hid (fun B D w (q:SndAt w B D aS4)=>sn_Engine w q)
 have HLe:Hid (∀B D w,SndAt w B D aS4→Calls Tryz.prog 27 #[.pointer (some ⟨D.e.b,0,none⟩)] w fun e w'=>e=.returned (.int .u64 39963)∧Below w.heap.size w w'):=Lib.hid (fun B D w q=>by have hh:=en_Least w q.e;rw [m11] at hh;exact hh)
 clear m1 m2 m3 m4 m5 m6 m7 m8 m9 m10 m11 o0 o1 o2 o3 hg
 generalize aS4=s4 at *
 generalize aS3=s3 at *
 generalize aS2=s2 at *
 generalize aS1=s1 at *
 generalize hq:SN.new defC=s0 at *
 go_enter Tryz.func8,Tryz.ntmps8
 go_wp2_with fail
 refine (HD.out).mono ?_
 rintro e w0 ⟨rfl,hb⟩
 have G0:=Lib.hid (HG.out.keep hb)
 have B0:=Lib.hid hb
 clear hb HD HG
 go_wp2_with fail
 refine (HN.out _ G0.out).mono ?_
 rintro e w1 ⟨D,rfl,hs,hb⟩
 rw [hq] at hs
 have I1:=Lib.hid (SndI.start hs)
 have B1:=Lib.hid (bel_to B0.out hb B0.out.size)
 have HZ:Hid (W.heap.size≤w0.heap.size):=Lib.hid B0.out.size
 clear hs hb hq HN G0 B0
 go_wp2_with fail
 refine (HWr.out _ _ _ I1.out.at_).mono ?_
 rintro e w2 hp
 obtain rfl:=hp.e
 have I2:=Lib.hid (SPost.step I1.out hp)
 clear hp HWr
 go_wp2_with fail
 refine (HT1.out _ _ _ I2.out.at_).mono ?_
 rintro e w3 ⟨vp,vc,rfl,hi⟩
 have I3:=Lib.hid (I2.out.over hi)
 clear hi HT1
 go_wp2_with fail
 refine (HNe.out _ _ _ I3.out.at_).mono ?_
 rintro e w4 ⟨rfl,hb⟩
 have I4:=Lib.hid (I3.out.to hb)
 clear hb HNe
 go_wp2_with fail
 refine (HT2.out _ _ _ I4.out.at_).mono ?_
 rintro e w5 ⟨g,gc,rfl,hrow,hi⟩
 have I5:=Lib.hid (I4.out.over hi)
 have R5:=hrow
 have I6:=Lib.hid (I5.out.to (al_be w5 (.cells #[.int .u64 0,.int .u64 1] 59)))
 have R6:=Lib.hid (R5.out.keep (al_be w5 (.cells #[.int .u64 0,.int .u64 1] 59)))
 have X6:=Lib.hid (Blk.new w5 59 #[.int .u64 0,.int .u64 1])
 clear hi hrow HT2
 go_wp2_with fail
 refine (HAk.out _ _ _ _ I6.out.at_ X6.out).mono ?_
 rintro e w7 hp
 obtain rfl:=hp.e
 have I7:=Lib.hid (SPost.step I6.out hp)
 have R7:=Lib.hid (R6.out.kn hp.i.kt)
 have c1:w7.cell? ⟨g,1,none⟩=some (.int .u64 1500):=PRow.cell (l:=[aP]) (k:=0) R7.out (by decide) 1 (by decide)
 clear hp HAk
 go_wp2_with fail
 refine (HIn.out _ _ _ I7.out.at_).mono ?_
 rintro e w8 ⟨rfl,hb⟩
 have I8:=Lib.hid (I7.out.to hb)
 clear hb HIn
 go_wp2_with fail
 refine (HWt.out _ _ _ I8.out.at_).mono ?_
 rintro e w9 ⟨rfl,hb⟩
 have I9:=Lib.hid (I8.out.to hb)
 clear hb HWt
 go_wp2_with fail
 refine (HEg.out _ _ _ I9.out.at_).mono ?_
 rintro e w10 ⟨rfl,hb⟩
 have I10:=Lib.hid (I9.out.to hb)
 clear hb HEg
 go_wp2_with fail
 refine (HLe.out _ _ _ I10.out.at_).mono ?_
 rintro e w11 ⟨rfl,hb⟩
 have I11:=Lib.hid (I10.out.to hb)
 clear hb HLe
 go_wp2_with fail
 go_ret
 exact ⟨rfl,B1.out.trans (I11.out.bel.mono HZ.out)⟩
end Go.Proofs.YteoepabmnbkabaaGreatDoor
