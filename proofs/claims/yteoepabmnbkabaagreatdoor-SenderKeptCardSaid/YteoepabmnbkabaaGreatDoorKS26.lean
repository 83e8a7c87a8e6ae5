/- 2 texts put together: what each one says stands ahead of it. -/
import Derived.Test.YteoepabmnbkabaaGreatDoorKS25
set_option linter.unusedVariables false
namespace Go.Proofs.YteoepabmnbkabaaGreatDoor
open Go.RowKit Cf
theorem ei_k {W w w':World} {B:Nat} {P:EP} {s:ES} (h:Hid (EngI W B P s w)) (k:Below w.heap.size w w'):Hid (EngI W B P s w'):=h.out.to k
theorem ei_r {W:World} {B:Nat} {P:EP} {s:ES} {i:Nat} {v:Value} (hv:(ecells P s)[i]? =some v):∀w,Hid (EngI W B P s w)→w.cell? ⟨P.b,i,none⟩=some v:=fun w q=>q.out.at_.e.cell hv
theorem cap_any (bs:BS) (x b:Nat) (W:World) (h:W.cell? ⟨b,0,none⟩=some (.int .u64 (x:Int))):
  Calls Tryz.prog 254 #[.agg bs.cells,.slice (some ⟨b,0,none⟩) 1 1] W fun e w'=>e=.returned (.int .u64 ((bs.cap [x]:Nat):Int))∧Below W.heap.size W w':=
 bd_Cap bs (some ⟨b,0,none⟩) 1 [x] W (by simp) (fun _=>⟨b,0,rfl,World.block_lt_of_cell? W _ h,row1 h⟩)
theorem nc1e (W:World) (b x:Nat) (T:TypeId) (hb:b=W.heap.size):(W.alloc (.cells #[.int .u64 (x:Int)] T)).cell? ⟨b,0,none⟩=some (.int .u64 (x:Int)):=by subst hb;exact new_cell rfl rfl
theorem nc2f (W:World) (b x y:Nat) (T:TypeId) (hb:b=W.heap.size):(W.alloc (.cells #[.int .u64 (x:Int),.int .u64 (y:Int)] T)).cell? ⟨b,0,none⟩=some (.int .u64 (x:Int))∧(W.alloc (.cells #[.int .u64 (x:Int),.int .u64 (y:Int)] T)).cell? ⟨b,1,none⟩=some (.int .u64 (y:Int)):=by subst hb;exact ⟨new_cell rfl rfl,new_cell rfl rfl⟩
set_option maxHeartbeats 1000000 in
theorem en_open0 {B k:Nat} {P:EP} {s:ES} (ac:Nat) (hac:ac≤18446744073709551615) (W:World) (h:EngAt W B P s) (ho:s.ok k) (hs:s.st=0) (hf:s.p.full=false)
  {a wi q ad le rm c2 z:Nat} (ha:a=Pl.addS s.cwnd ac) (hwi:wi=windowG (stG s.st) s.uses) (hq:q=s.quant) (had:ad=Pl.addS wi q) (hle:le=leastC s.c) (hrm:rm=s.bs.room) (hc2:c2=s.bs.cap [a]) (hz:z=min (max (c2) le) 72057594037927936):
  Calls Tryz.prog 181 #[.pointer (some ⟨P.b,0,none⟩),.int .u64 (ac:Int)] W fun e w'=>e=.returned (.int .u64 (z:Int))∧Below W.heap.size W w':=by
 have HA:=Lib.hid (add_any s.cwnd ac ho.cwnd hac)
 have HU:=Lib.hid (fun w h=>en_uses (B:=B) (P:=P) (s:=s) w h ho)
 have HW:=Lib.hid (fun w h=>ga_Window s.st s.uses (ES.uses_le s) w h)
 have HF:Hid (∀w,EngAt w B P s→Calls Tryz.prog 237 #[.pointer (some ⟨P.p,0,none⟩)] w fun e w'=>e=.returned (.bool s.p.full)∧Below w.heap.size w w'):=Lib.hid (fun w hw=>(pi_Full P.p s.p w hw.p).mono fun e w' q=>⟨q.1,q.2▸Below.refl _ _⟩)
 have HQ:=Lib.hid (fun w h=>en_Quantum (B:=B) (P:=P) (s:=s) w h ho)
 have HD:=Lib.hid (add_any wi q (by rw [hwi];exact windowG_le _ _) (by rw [hq];exact ES.quant_le s))
 have HC:=Lib.hid (fun b w h=>cap_any s.bs (a) b w h)
 have HR:=Lib.hid (fun w=>bd_Room s.bs w ho.bs)
 have HL:=Lib.hid (fun w=>conf_Least s.c w ho.c)
 have hm1:min (a:Int) (ad:Int)=((min a ad:Nat):Int):=by omega
 have hm2:min (c2:Int) (rm:Int)=((min c2 rm:Nat):Int):=by omega
 have hm3:min (c2:Int) (wi:Int)=((min c2 wi:Nat):Int):=by omega
 have hm4:max (((c2):Nat):Int) (le:Int)=((max (c2) le:Nat):Int):=by omega
 have hm5:min ((max (c2) le:Nat):Int) 72057594037927936=(z:Int):=by omega
 have z0:(s.st == 0)=true:=beq_iff_eq.2 hs
 have z2:(s.st == 2)=false:=beq_eq_false_iff_ne.2 (by omega)
 have z3:(s.st == 3)=false:=beq_eq_false_iff_ne.2 (by omega)
 have z6:(s.st == 6)=false:=beq_eq_false_iff_ne.2 (by omega)
 have zn:(s.st != 0)=false:=by simp [bne,z0]
 rw [hf] at HF
 have I0:=Lib.hid (EngI.start h)
 have c18:=h.e.cell (i:=18) (v:=.int .u64 (s.cwnd:Int)) rfl
 rw [← ha] at HA
 rw [← hwi] at HW
 rw [← hq] at HQ
 rw [← had] at HD
 rw [← hc2] at HC
 rw [← hrm] at HR
 rw [← hle] at HL
 clear h ho hac ha hwi hq had hle hrm hc2 hz hs hf
 generalize s.uses=us at *
 generalize min (max (c2) le) 72057594037927936=zz at *
 generalize hoo:(a)=o1 at *
 generalize hvv:(c2)=v3 at *
 generalize max v3 le=mx at *
 simp only [BS.cells] at HC HR
 simp only [ccells] at HL
 go_enter Tryz.func181,Tryz.ntmps181
 go_wp2_with fail
 refine (HA.out _ _ (by exact (nc2f _ _ _ _ _ (by simp)).1) (by exact (nc2f _ _ _ _ _ (by simp)).2)).mono ?_
 rintro e w1 ⟨rfl,hb⟩
 have I1:=Lib.hid ((I0.out.to (al_be _ _)).to hb)
 clear hb c18 I0 HA
 go_wp2_with fail
 have I2:=Lib.hid I1.out.drew
 have r13:=ei_r (W:=W) (B:=B) (P:=P) (s:=s) (i:=13) (v:=.int .i64 s.st) rfl
 go_region_held3 (fun w'=>Hid (EngI W B P s w'))
  (first | with_reducible exact ei_k (by assumption) hb | with_reducible exact I2)
  (first
   | (go_at_call 253;(with_reducible refine (HU.out _ (Hid.out (by assumption):EngI W B P s _).at_).mono ?_);rintro e w' ⟨rfl,hb⟩)
   | (go_at_call 252;(with_reducible refine (HW.out _ (Hid.out (by assumption):EngI W B P s _).at_.gl).mono ?_);rintro e w' ⟨rfl,hb⟩))
 have I3:Hid (EngI W B P s w'):=by assumption
 clear r13 hb I1 I2
 have c13:=I3.out.at_.e.cell (i:=13) (v:=.int .i64 s.st) rfl
 have c6:=I3.out.at_.e.cell (i:=6) (v:=.pointer (some ⟨P.p,0,none⟩)) rfl
 have c7:=I3.out.at_.e.cell (i:=7) (v:=.int .u64 (s.bs.hi:Int)) rfl
 have c8:=I3.out.at_.e.cell (i:=8) (v:=.int .u64 (s.bs.lo:Int)) rfl
 have c9:=I3.out.at_.e.cell (i:=9) (v:=.int .u64 (s.bs.bw:Int)) rfl
 go_wp2_with fail
 refine (HF.out _ I3.out.at_).mono ?_
 rintro e w13 ⟨rfl,hb⟩
 have I4:=Lib.hid (I3.out.to hb)
 clear hb
 have c7:=I4.out.at_.e.cell (i:=7) (v:=.int .u64 (s.bs.hi:Int)) rfl
 have c8:=I4.out.at_.e.cell (i:=8) (v:=.int .u64 (s.bs.lo:Int)) rfl
 have c9:=I4.out.at_.e.cell (i:=9) (v:=.int .u64 (s.bs.bw:Int)) rfl
 have c13:=I4.out.at_.e.cell (i:=13) (v:=.int .i64 s.st) rfl
 go_wp2_with fail
 refine (HC.out _ _ (by first | exact nc1e _ _ _ _ (by simp) | (rw [hoo];exact nc1e _ _ _ _ (by simp)))).mono ?_
 rintro e w14 ⟨rfl,hb⟩
 have I5:=Lib.hid ((I4.out.to (al_be _ _)).to hb)
 clear hb
 have c7:=I5.out.at_.e.cell (i:=7) (v:=.int .u64 (s.bs.hi:Int)) rfl
 have c8:=I5.out.at_.e.cell (i:=8) (v:=.int .u64 (s.bs.lo:Int)) rfl
 have c9:=I5.out.at_.e.cell (i:=9) (v:=.int .u64 (s.bs.bw:Int)) rfl
 have c13:=I5.out.at_.e.cell (i:=13) (v:=.int .i64 s.st) rfl
 have c0:=I5.out.at_.e.cell (i:=0) (v:=.int .u64 (s.c 0:Int)) rfl
 have c1:=I5.out.at_.e.cell (i:=1) (v:=.int .u64 (s.c 1:Int)) rfl
 have c2:=I5.out.at_.e.cell (i:=2) (v:=.int .u64 (s.c 2:Int)) rfl
 have c3:=I5.out.at_.e.cell (i:=3) (v:=.int .u64 (s.c 3:Int)) rfl
 have c4:=I5.out.at_.e.cell (i:=4) (v:=.int .u64 (s.c 4:Int)) rfl
 have c5:=I5.out.at_.e.cell (i:=5) (v:=.int .u64 (s.c 5:Int)) rfl
 go_wp2_with fail
 refine (HL.out _).mono ?_
 rintro e w15 ⟨rfl,hb⟩
 have I6:=Lib.hid (I5.out.to hb)
 clear hb
 go_wp2_with fail
 all_goals
  go_ret
  refine ⟨ret_u64 ?_,I6.out.bel⟩
  first | rfl | exact hm5 | omega
set_option maxHeartbeats 1000000 in
theorem en_open0f {B k:Nat} {P:EP} {s:ES} (ac:Nat) (hac:ac≤18446744073709551615) (W:World) (h:EngAt W B P s) (ho:s.ok k) (hs:s.st=0) (hf:s.p.full=true)
  {a wi q ad le rm c2 z:Nat} (ha:a=Pl.addS s.cwnd ac) (hwi:wi=windowG (stG s.st) s.uses) (hq:q=s.quant) (had:ad=Pl.addS wi q) (hle:le=leastC s.c) (hrm:rm=s.bs.room) (hc2:c2=s.bs.cap [min a ad]) (hz:z=min (max (c2) le) 72057594037927936):
  Calls Tryz.prog 181 #[.pointer (some ⟨P.b,0,none⟩),.int .u64 (ac:Int)] W fun e w'=>e=.returned (.int .u64 (z:Int))∧Below W.heap.size W w':=by
 have HA:=Lib.hid (add_any s.cwnd ac ho.cwnd hac)
 have HU:=Lib.hid (fun w h=>en_uses (B:=B) (P:=P) (s:=s) w h ho)
 have HW:=Lib.hid (fun w h=>ga_Window s.st s.uses (ES.uses_le s) w h)
 have HF:Hid (∀w,EngAt w B P s→Calls Tryz.prog 237 #[.pointer (some ⟨P.p,0,none⟩)] w fun e w'=>e=.returned (.bool s.p.full)∧Below w.heap.size w w'):=Lib.hid (fun w hw=>(pi_Full P.p s.p w hw.p).mono fun e w' q=>⟨q.1,q.2▸Below.refl _ _⟩)
 have HQ:=Lib.hid (fun w h=>en_Quantum (B:=B) (P:=P) (s:=s) w h ho)
 have HD:=Lib.hid (add_any wi q (by rw [hwi];exact windowG_le _ _) (by rw [hq];exact ES.quant_le s))
 have HC:=Lib.hid (fun b w h=>cap_any s.bs (min a ad) b w h)
 have HR:=Lib.hid (fun w=>bd_Room s.bs w ho.bs)
 have HL:=Lib.hid (fun w=>conf_Least s.c w ho.c)
 have hm1:min (a:Int) (ad:Int)=((min a ad:Nat):Int):=by omega
 have hm2:min (c2:Int) (rm:Int)=((min c2 rm:Nat):Int):=by omega
 have hm3:min (c2:Int) (wi:Int)=((min c2 wi:Nat):Int):=by omega
 have hm4:max (((c2):Nat):Int) (le:Int)=((max (c2) le:Nat):Int):=by omega
 have hm5:min ((max (c2) le:Nat):Int) 72057594037927936=(z:Int):=by omega
 have z0:(s.st == 0)=true:=beq_iff_eq.2 hs
 have z2:(s.st == 2)=false:=beq_eq_false_iff_ne.2 (by omega)
 have z3:(s.st == 3)=false:=beq_eq_false_iff_ne.2 (by omega)
 have z6:(s.st == 6)=false:=beq_eq_false_iff_ne.2 (by omega)
 have zn:(s.st != 0)=false:=by simp [bne,z0]
 rw [hf] at HF
 have I0:=Lib.hid (EngI.start h)
 have c18:=h.e.cell (i:=18) (v:=.int .u64 (s.cwnd:Int)) rfl
 rw [← ha] at HA
 rw [← hwi] at HW
 rw [← hq] at HQ
 rw [← had] at HD
 rw [← hc2] at HC
 rw [← hrm] at HR
 rw [← hle] at HL
 clear h ho hac ha hwi hq had hle hrm hc2 hz hs hf
 generalize s.uses=us at *
 generalize min (max (c2) le) 72057594037927936=zz at *
 generalize hoo:(min a ad)=o1 at *
 generalize hvv:(c2)=v3 at *
 generalize max v3 le=mx at *
 simp only [BS.cells] at HC HR
 simp only [ccells] at HL
 go_enter Tryz.func181,Tryz.ntmps181
 go_wp2_with fail
 refine (HA.out _ _ (by exact (nc2f _ _ _ _ _ (by simp)).1) (by exact (nc2f _ _ _ _ _ (by simp)).2)).mono ?_
 rintro e w1 ⟨rfl,hb⟩
 have I1:=Lib.hid ((I0.out.to (al_be _ _)).to hb)
 clear hb c18 I0 HA
 go_wp2_with fail
 have I2:=Lib.hid I1.out.drew
 have r13:=ei_r (W:=W) (B:=B) (P:=P) (s:=s) (i:=13) (v:=.int .i64 s.st) rfl
 go_region_held3 (fun w'=>Hid (EngI W B P s w'))
  (first | with_reducible exact ei_k (by assumption) hb | with_reducible exact I2)
  (first
   | (go_at_call 253;(with_reducible refine (HU.out _ (Hid.out (by assumption):EngI W B P s _).at_).mono ?_);rintro e w' ⟨rfl,hb⟩)
   | (go_at_call 252;(with_reducible refine (HW.out _ (Hid.out (by assumption):EngI W B P s _).at_.gl).mono ?_);rintro e w' ⟨rfl,hb⟩))
 have I3:Hid (EngI W B P s w'):=by assumption
 clear r13 hb I1 I2
 have c13:=I3.out.at_.e.cell (i:=13) (v:=.int .i64 s.st) rfl
 have c6:=I3.out.at_.e.cell (i:=6) (v:=.pointer (some ⟨P.p,0,none⟩)) rfl
 have c7:=I3.out.at_.e.cell (i:=7) (v:=.int .u64 (s.bs.hi:Int)) rfl
 have c8:=I3.out.at_.e.cell (i:=8) (v:=.int .u64 (s.bs.lo:Int)) rfl
 have c9:=I3.out.at_.e.cell (i:=9) (v:=.int .u64 (s.bs.bw:Int)) rfl
 go_wp2_with fail
 refine (HF.out _ I3.out.at_).mono ?_
 rintro e w13 ⟨rfl,hb⟩
 have I4:=Lib.hid (I3.out.to hb)
 clear hb
 have c7:=I4.out.at_.e.cell (i:=7) (v:=.int .u64 (s.bs.hi:Int)) rfl
 have c8:=I4.out.at_.e.cell (i:=8) (v:=.int .u64 (s.bs.lo:Int)) rfl
 have c9:=I4.out.at_.e.cell (i:=9) (v:=.int .u64 (s.bs.bw:Int)) rfl
 have c13:=I4.out.at_.e.cell (i:=13) (v:=.int .i64 s.st) rfl
 go_wp2_with fail
 refine (HQ.out _ I4.out.at_).mono ?_
 rintro e w14 ⟨rfl,hb⟩
 have I5:=Lib.hid (I4.out.to hb)
 clear hb
 go_wp2_with fail
 refine (HD.out _ _ (by exact (nc2f _ _ _ _ _ (by simp)).1) (by exact (nc2f _ _ _ _ _ (by simp)).2)).mono ?_
 rintro e w15 ⟨rfl,hb⟩
 have I6:=Lib.hid ((I5.out.to (al_be _ _)).to hb)
 clear hb
 have c7:=I6.out.at_.e.cell (i:=7) (v:=.int .u64 (s.bs.hi:Int)) rfl
 have c8:=I6.out.at_.e.cell (i:=8) (v:=.int .u64 (s.bs.lo:Int)) rfl
 have c9:=I6.out.at_.e.cell (i:=9) (v:=.int .u64 (s.bs.bw:Int)) rfl
 have c13:=I6.out.at_.e.cell (i:=13) (v:=.int .i64 s.st) rfl
 go_wp2_with fail
 refine (HC.out _ _ (by first | exact nc1e _ _ _ _ (by simp) | (rw [hoo];exact nc1e _ _ _ _ (by simp)))).mono ?_
 rintro e w16 ⟨rfl,hb⟩
 have I7:=Lib.hid ((I6.out.to (al_be _ _)).to hb)
 clear hb
 have c7:=I7.out.at_.e.cell (i:=7) (v:=.int .u64 (s.bs.hi:Int)) rfl
 have c8:=I7.out.at_.e.cell (i:=8) (v:=.int .u64 (s.bs.lo:Int)) rfl
 have c9:=I7.out.at_.e.cell (i:=9) (v:=.int .u64 (s.bs.bw:Int)) rfl
 have c13:=I7.out.at_.e.cell (i:=13) (v:=.int .i64 s.st) rfl
 have c0:=I7.out.at_.e.cell (i:=0) (v:=.int .u64 (s.c 0:Int)) rfl
 have c1:=I7.out.at_.e.cell (i:=1) (v:=.int .u64 (s.c 1:Int)) rfl
 have c2:=I7.out.at_.e.cell (i:=2) (v:=.int .u64 (s.c 2:Int)) rfl
 have c3:=I7.out.at_.e.cell (i:=3) (v:=.int .u64 (s.c 3:Int)) rfl
 have c4:=I7.out.at_.e.cell (i:=4) (v:=.int .u64 (s.c 4:Int)) rfl
 have c5:=I7.out.at_.e.cell (i:=5) (v:=.int .u64 (s.c 5:Int)) rfl
 go_wp2_with fail
 refine (HL.out _).mono ?_
 rintro e w17 ⟨rfl,hb⟩
 have I8:=Lib.hid (I7.out.to hb)
 clear hb
 go_wp2_with fail
 all_goals
  go_ret
  refine ⟨ret_u64 ?_,I8.out.bel⟩
  first | rfl | exact hm5 | omega
set_option maxHeartbeats 1000000 in
theorem en_open2 {B k:Nat} {P:EP} {s:ES} (ac:Nat) (hac:ac≤18446744073709551615) (W:World) (h:EngAt W B P s) (ho:s.ok k) (hs:s.st=2)
  {a wi q ad le rm c2 z:Nat} (ha:a=Pl.addS s.cwnd ac) (hwi:wi=windowG (stG s.st) s.uses) (hq:q=s.quant) (had:ad=Pl.addS wi q) (hle:le=leastC s.c) (hrm:rm=s.bs.room) (hc2:c2=s.bs.cap [min a ad]) (hz:z=min (max (min c2 rm) le) 72057594037927936):
  Calls Tryz.prog 181 #[.pointer (some ⟨P.b,0,none⟩),.int .u64 (ac:Int)] W fun e w'=>e=.returned (.int .u64 (z:Int))∧Below W.heap.size W w':=by
 have HA:=Lib.hid (add_any s.cwnd ac ho.cwnd hac)
 have HU:=Lib.hid (fun w h=>en_uses (B:=B) (P:=P) (s:=s) w h ho)
 have HW:=Lib.hid (fun w h=>ga_Window s.st s.uses (ES.uses_le s) w h)
 have HF:Hid (∀w,EngAt w B P s→Calls Tryz.prog 237 #[.pointer (some ⟨P.p,0,none⟩)] w fun e w'=>e=.returned (.bool s.p.full)∧Below w.heap.size w w'):=Lib.hid (fun w hw=>(pi_Full P.p s.p w hw.p).mono fun e w' q=>⟨q.1,q.2▸Below.refl _ _⟩)
 have HQ:=Lib.hid (fun w h=>en_Quantum (B:=B) (P:=P) (s:=s) w h ho)
 have HD:=Lib.hid (add_any wi q (by rw [hwi];exact windowG_le _ _) (by rw [hq];exact ES.quant_le s))
 have HC:=Lib.hid (fun b w h=>cap_any s.bs (min a ad) b w h)
 have HR:=Lib.hid (fun w=>bd_Room s.bs w ho.bs)
 have HL:=Lib.hid (fun w=>conf_Least s.c w ho.c)
 have hm1:min (a:Int) (ad:Int)=((min a ad:Nat):Int):=by omega
 have hm2:min (c2:Int) (rm:Int)=((min c2 rm:Nat):Int):=by omega
 have hm3:min (c2:Int) (wi:Int)=((min c2 wi:Nat):Int):=by omega
 have hm4:max (((min c2 rm):Nat):Int) (le:Int)=((max (min c2 rm) le:Nat):Int):=by omega
 have hm5:min ((max (min c2 rm) le:Nat):Int) 72057594037927936=(z:Int):=by omega
 have z0:(s.st == 0)=false:=beq_eq_false_iff_ne.2 (by omega)
 have z2:(s.st == 2)=true:=beq_iff_eq.2 hs
 have z3:(s.st == 3)=false:=beq_eq_false_iff_ne.2 (by omega)
 have z6:(s.st == 6)=false:=beq_eq_false_iff_ne.2 (by omega)
 have zn:(s.st != 0)=true:=by simp [bne,z0]
 have I0:=Lib.hid (EngI.start h)
 have c18:=h.e.cell (i:=18) (v:=.int .u64 (s.cwnd:Int)) rfl
 rw [← ha] at HA
 rw [← hwi] at HW
 rw [← hq] at HQ
 rw [← had] at HD
 rw [← hc2] at HC
 rw [← hrm] at HR
 rw [← hle] at HL
 clear h ho hac ha hwi hq had hle hrm hc2 hz hs
 generalize s.uses=us at *
 generalize min (max (min c2 rm) le) 72057594037927936=zz at *
 generalize hoo:(min a ad)=o1 at *
 generalize hvv:(min c2 rm)=v3 at *
 generalize max v3 le=mx at *
 simp only [BS.cells] at HC HR
 simp only [ccells] at HL
 go_enter Tryz.func181,Tryz.ntmps181
 go_wp2_with fail
 refine (HA.out _ _ (by exact (nc2f _ _ _ _ _ (by simp)).1) (by exact (nc2f _ _ _ _ _ (by simp)).2)).mono ?_
 rintro e w1 ⟨rfl,hb⟩
 have I1:=Lib.hid ((I0.out.to (al_be _ _)).to hb)
 clear hb c18 I0 HA
 go_wp2_with fail
 have I2:=Lib.hid I1.out.drew
 have r13:=ei_r (W:=W) (B:=B) (P:=P) (s:=s) (i:=13) (v:=.int .i64 s.st) rfl
 go_region_held3 (fun w'=>Hid (EngI W B P s w'))
  (first | with_reducible exact ei_k (by assumption) hb | with_reducible exact I2)
  (first
   | (go_at_call 253;(with_reducible refine (HU.out _ (Hid.out (by assumption):EngI W B P s _).at_).mono ?_);rintro e w' ⟨rfl,hb⟩)
   | (go_at_call 252;(with_reducible refine (HW.out _ (Hid.out (by assumption):EngI W B P s _).at_.gl).mono ?_);rintro e w' ⟨rfl,hb⟩))
 have I3:Hid (EngI W B P s w'):=by assumption
 clear r13 hb I1 I2
 have c13:=I3.out.at_.e.cell (i:=13) (v:=.int .i64 s.st) rfl
 have c6:=I3.out.at_.e.cell (i:=6) (v:=.pointer (some ⟨P.p,0,none⟩)) rfl
 have c7:=I3.out.at_.e.cell (i:=7) (v:=.int .u64 (s.bs.hi:Int)) rfl
 have c8:=I3.out.at_.e.cell (i:=8) (v:=.int .u64 (s.bs.lo:Int)) rfl
 have c9:=I3.out.at_.e.cell (i:=9) (v:=.int .u64 (s.bs.bw:Int)) rfl
 go_wp2_with fail
 refine (HQ.out _ I3.out.at_).mono ?_
 rintro e w13 ⟨rfl,hb⟩
 have I4:=Lib.hid (I3.out.to hb)
 clear hb
 go_wp2_with fail
 refine (HD.out _ _ (by exact (nc2f _ _ _ _ _ (by simp)).1) (by exact (nc2f _ _ _ _ _ (by simp)).2)).mono ?_
 rintro e w14 ⟨rfl,hb⟩
 have I5:=Lib.hid ((I4.out.to (al_be _ _)).to hb)
 clear hb
 have c7:=I5.out.at_.e.cell (i:=7) (v:=.int .u64 (s.bs.hi:Int)) rfl
 have c8:=I5.out.at_.e.cell (i:=8) (v:=.int .u64 (s.bs.lo:Int)) rfl
 have c9:=I5.out.at_.e.cell (i:=9) (v:=.int .u64 (s.bs.bw:Int)) rfl
 have c13:=I5.out.at_.e.cell (i:=13) (v:=.int .i64 s.st) rfl
 go_wp2_with fail
 refine (HC.out _ _ (by first | exact nc1e _ _ _ _ (by simp) | (rw [hoo];exact nc1e _ _ _ _ (by simp)))).mono ?_
 rintro e w15 ⟨rfl,hb⟩
 have I6:=Lib.hid ((I5.out.to (al_be _ _)).to hb)
 clear hb
 have c7:=I6.out.at_.e.cell (i:=7) (v:=.int .u64 (s.bs.hi:Int)) rfl
 have c8:=I6.out.at_.e.cell (i:=8) (v:=.int .u64 (s.bs.lo:Int)) rfl
 have c9:=I6.out.at_.e.cell (i:=9) (v:=.int .u64 (s.bs.bw:Int)) rfl
 have c13:=I6.out.at_.e.cell (i:=13) (v:=.int .i64 s.st) rfl
 have c0:=I6.out.at_.e.cell (i:=0) (v:=.int .u64 (s.c 0:Int)) rfl
 have c1:=I6.out.at_.e.cell (i:=1) (v:=.int .u64 (s.c 1:Int)) rfl
 have c2:=I6.out.at_.e.cell (i:=2) (v:=.int .u64 (s.c 2:Int)) rfl
 have c3:=I6.out.at_.e.cell (i:=3) (v:=.int .u64 (s.c 3:Int)) rfl
 have c4:=I6.out.at_.e.cell (i:=4) (v:=.int .u64 (s.c 4:Int)) rfl
 have c5:=I6.out.at_.e.cell (i:=5) (v:=.int .u64 (s.c 5:Int)) rfl
 go_wp2_with fail
 refine (HR.out _).mono ?_
 rintro e w16 ⟨rfl,hb⟩
 have I7:=Lib.hid (I6.out.to hb)
 clear hb
 have c0:=I7.out.at_.e.cell (i:=0) (v:=.int .u64 (s.c 0:Int)) rfl
 have c1:=I7.out.at_.e.cell (i:=1) (v:=.int .u64 (s.c 1:Int)) rfl
 have c2:=I7.out.at_.e.cell (i:=2) (v:=.int .u64 (s.c 2:Int)) rfl
 have c3:=I7.out.at_.e.cell (i:=3) (v:=.int .u64 (s.c 3:Int)) rfl
 have c4:=I7.out.at_.e.cell (i:=4) (v:=.int .u64 (s.c 4:Int)) rfl
 have c5:=I7.out.at_.e.cell (i:=5) (v:=.int .u64 (s.c 5:Int)) rfl
 go_wp2_with fail
 refine (HL.out _).mono ?_
 rintro e w17 ⟨rfl,hb⟩
 have I8:=Lib.hid (I7.out.to hb)
 clear hb
 go_wp2_with fail
 all_goals
  go_ret
  refine ⟨ret_u64 ?_,I8.out.bel⟩
  first | rfl | exact hm5 | omega
set_option maxHeartbeats 1000000 in
theorem en_open3 {B k:Nat} {P:EP} {s:ES} (ac:Nat) (hac:ac≤18446744073709551615) (W:World) (h:EngAt W B P s) (ho:s.ok k) (hs:s.st=3)
  {a wi q ad le rm c2 z:Nat} (ha:a=Pl.addS s.cwnd ac) (hwi:wi=windowG (stG s.st) s.uses) (hq:q=s.quant) (had:ad=Pl.addS wi q) (hle:le=leastC s.c) (hrm:rm=s.bs.room) (hc2:c2=s.bs.cap [min a ad]) (hz:z=min (max (min c2 rm) le) 72057594037927936):
  Calls Tryz.prog 181 #[.pointer (some ⟨P.b,0,none⟩),.int .u64 (ac:Int)] W fun e w'=>e=.returned (.int .u64 (z:Int))∧Below W.heap.size W w':=by
 have HA:=Lib.hid (add_any s.cwnd ac ho.cwnd hac)
 have HU:=Lib.hid (fun w h=>en_uses (B:=B) (P:=P) (s:=s) w h ho)
 have HW:=Lib.hid (fun w h=>ga_Window s.st s.uses (ES.uses_le s) w h)
 have HF:Hid (∀w,EngAt w B P s→Calls Tryz.prog 237 #[.pointer (some ⟨P.p,0,none⟩)] w fun e w'=>e=.returned (.bool s.p.full)∧Below w.heap.size w w'):=Lib.hid (fun w hw=>(pi_Full P.p s.p w hw.p).mono fun e w' q=>⟨q.1,q.2▸Below.refl _ _⟩)
 have HQ:=Lib.hid (fun w h=>en_Quantum (B:=B) (P:=P) (s:=s) w h ho)
 have HD:=Lib.hid (add_any wi q (by rw [hwi];exact windowG_le _ _) (by rw [hq];exact ES.quant_le s))
 have HC:=Lib.hid (fun b w h=>cap_any s.bs (min a ad) b w h)
 have HR:=Lib.hid (fun w=>bd_Room s.bs w ho.bs)
 have HL:=Lib.hid (fun w=>conf_Least s.c w ho.c)
 have hm1:min (a:Int) (ad:Int)=((min a ad:Nat):Int):=by omega
 have hm2:min (c2:Int) (rm:Int)=((min c2 rm:Nat):Int):=by omega
 have hm3:min (c2:Int) (wi:Int)=((min c2 wi:Nat):Int):=by omega
 have hm4:max (((min c2 rm):Nat):Int) (le:Int)=((max (min c2 rm) le:Nat):Int):=by omega
 have hm5:min ((max (min c2 rm) le:Nat):Int) 72057594037927936=(z:Int):=by omega
 have z0:(s.st == 0)=false:=beq_eq_false_iff_ne.2 (by omega)
 have z2:(s.st == 2)=false:=beq_eq_false_iff_ne.2 (by omega)
 have z3:(s.st == 3)=true:=beq_iff_eq.2 hs
 have z6:(s.st == 6)=false:=beq_eq_false_iff_ne.2 (by omega)
 have zn:(s.st != 0)=true:=by simp [bne,z0]
 have I0:=Lib.hid (EngI.start h)
 have c18:=h.e.cell (i:=18) (v:=.int .u64 (s.cwnd:Int)) rfl
 rw [← ha] at HA
 rw [← hwi] at HW
 rw [← hq] at HQ
 rw [← had] at HD
 rw [← hc2] at HC
 rw [← hrm] at HR
 rw [← hle] at HL
 clear h ho hac ha hwi hq had hle hrm hc2 hz hs
 generalize s.uses=us at *
 generalize min (max (min c2 rm) le) 72057594037927936=zz at *
 generalize hoo:(min a ad)=o1 at *
 generalize hvv:(min c2 rm)=v3 at *
 generalize max v3 le=mx at *
 simp only [BS.cells] at HC HR
 simp only [ccells] at HL
 go_enter Tryz.func181,Tryz.ntmps181
 go_wp2_with fail
 refine (HA.out _ _ (by exact (nc2f _ _ _ _ _ (by simp)).1) (by exact (nc2f _ _ _ _ _ (by simp)).2)).mono ?_
 rintro e w1 ⟨rfl,hb⟩
 have I1:=Lib.hid ((I0.out.to (al_be _ _)).to hb)
 clear hb c18 I0 HA
 go_wp2_with fail
 have I2:=Lib.hid I1.out.drew
 have r13:=ei_r (W:=W) (B:=B) (P:=P) (s:=s) (i:=13) (v:=.int .i64 s.st) rfl
 go_region_held3 (fun w'=>Hid (EngI W B P s w'))
  (first | with_reducible exact ei_k (by assumption) hb | with_reducible exact I2)
  (first
   | (go_at_call 253;(with_reducible refine (HU.out _ (Hid.out (by assumption):EngI W B P s _).at_).mono ?_);rintro e w' ⟨rfl,hb⟩)
   | (go_at_call 252;(with_reducible refine (HW.out _ (Hid.out (by assumption):EngI W B P s _).at_.gl).mono ?_);rintro e w' ⟨rfl,hb⟩))
 have I3:Hid (EngI W B P s w'):=by assumption
 clear r13 hb I1 I2
 have c13:=I3.out.at_.e.cell (i:=13) (v:=.int .i64 s.st) rfl
 have c6:=I3.out.at_.e.cell (i:=6) (v:=.pointer (some ⟨P.p,0,none⟩)) rfl
 have c7:=I3.out.at_.e.cell (i:=7) (v:=.int .u64 (s.bs.hi:Int)) rfl
 have c8:=I3.out.at_.e.cell (i:=8) (v:=.int .u64 (s.bs.lo:Int)) rfl
 have c9:=I3.out.at_.e.cell (i:=9) (v:=.int .u64 (s.bs.bw:Int)) rfl
 go_wp2_with fail
 refine (HQ.out _ I3.out.at_).mono ?_
 rintro e w13 ⟨rfl,hb⟩
 have I4:=Lib.hid (I3.out.to hb)
 clear hb
 go_wp2_with fail
 refine (HD.out _ _ (by exact (nc2f _ _ _ _ _ (by simp)).1) (by exact (nc2f _ _ _ _ _ (by simp)).2)).mono ?_
 rintro e w14 ⟨rfl,hb⟩
 have I5:=Lib.hid ((I4.out.to (al_be _ _)).to hb)
 clear hb
 have c7:=I5.out.at_.e.cell (i:=7) (v:=.int .u64 (s.bs.hi:Int)) rfl
 have c8:=I5.out.at_.e.cell (i:=8) (v:=.int .u64 (s.bs.lo:Int)) rfl
 have c9:=I5.out.at_.e.cell (i:=9) (v:=.int .u64 (s.bs.bw:Int)) rfl
 have c13:=I5.out.at_.e.cell (i:=13) (v:=.int .i64 s.st) rfl
 go_wp2_with fail
 refine (HC.out _ _ (by first | exact nc1e _ _ _ _ (by simp) | (rw [hoo];exact nc1e _ _ _ _ (by simp)))).mono ?_
 rintro e w15 ⟨rfl,hb⟩
 have I6:=Lib.hid ((I5.out.to (al_be _ _)).to hb)
 clear hb
 have c7:=I6.out.at_.e.cell (i:=7) (v:=.int .u64 (s.bs.hi:Int)) rfl
 have c8:=I6.out.at_.e.cell (i:=8) (v:=.int .u64 (s.bs.lo:Int)) rfl
 have c9:=I6.out.at_.e.cell (i:=9) (v:=.int .u64 (s.bs.bw:Int)) rfl
 have c13:=I6.out.at_.e.cell (i:=13) (v:=.int .i64 s.st) rfl
 have c0:=I6.out.at_.e.cell (i:=0) (v:=.int .u64 (s.c 0:Int)) rfl
 have c1:=I6.out.at_.e.cell (i:=1) (v:=.int .u64 (s.c 1:Int)) rfl
 have c2:=I6.out.at_.e.cell (i:=2) (v:=.int .u64 (s.c 2:Int)) rfl
 have c3:=I6.out.at_.e.cell (i:=3) (v:=.int .u64 (s.c 3:Int)) rfl
 have c4:=I6.out.at_.e.cell (i:=4) (v:=.int .u64 (s.c 4:Int)) rfl
 have c5:=I6.out.at_.e.cell (i:=5) (v:=.int .u64 (s.c 5:Int)) rfl
 go_wp2_with fail
 refine (HR.out _).mono ?_
 rintro e w16 ⟨rfl,hb⟩
 have I7:=Lib.hid (I6.out.to hb)
 clear hb
 have c0:=I7.out.at_.e.cell (i:=0) (v:=.int .u64 (s.c 0:Int)) rfl
 have c1:=I7.out.at_.e.cell (i:=1) (v:=.int .u64 (s.c 1:Int)) rfl
 have c2:=I7.out.at_.e.cell (i:=2) (v:=.int .u64 (s.c 2:Int)) rfl
 have c3:=I7.out.at_.e.cell (i:=3) (v:=.int .u64 (s.c 3:Int)) rfl
 have c4:=I7.out.at_.e.cell (i:=4) (v:=.int .u64 (s.c 4:Int)) rfl
 have c5:=I7.out.at_.e.cell (i:=5) (v:=.int .u64 (s.c 5:Int)) rfl
 go_wp2_with fail
 refine (HL.out _).mono ?_
 rintro e w17 ⟨rfl,hb⟩
 have I8:=Lib.hid (I7.out.to hb)
 clear hb
 go_wp2_with fail
 all_goals
  go_ret
  refine ⟨ret_u64 ?_,I8.out.bel⟩
  first | rfl | exact hm5 | omega
set_option maxHeartbeats 1000000 in
theorem en_open6 {B k:Nat} {P:EP} {s:ES} (ac:Nat) (hac:ac≤18446744073709551615) (W:World) (h:EngAt W B P s) (ho:s.ok k) (hs:s.st=6)
  {a wi q ad le rm c2 z:Nat} (ha:a=Pl.addS s.cwnd ac) (hwi:wi=windowG (stG s.st) s.uses) (hq:q=s.quant) (had:ad=Pl.addS wi q) (hle:le=leastC s.c) (hrm:rm=s.bs.room) (hc2:c2=s.bs.cap [min a ad]) (hz:z=min (max (min c2 wi) le) 72057594037927936):
  Calls Tryz.prog 181 #[.pointer (some ⟨P.b,0,none⟩),.int .u64 (ac:Int)] W fun e w'=>e=.returned (.int .u64 (z:Int))∧Below W.heap.size W w':=by
 have HA:=Lib.hid (add_any s.cwnd ac ho.cwnd hac)
 have HU:=Lib.hid (fun w h=>en_uses (B:=B) (P:=P) (s:=s) w h ho)
 have HW:=Lib.hid (fun w h=>ga_Window s.st s.uses (ES.uses_le s) w h)
 have HF:Hid (∀w,EngAt w B P s→Calls Tryz.prog 237 #[.pointer (some ⟨P.p,0,none⟩)] w fun e w'=>e=.returned (.bool s.p.full)∧Below w.heap.size w w'):=Lib.hid (fun w hw=>(pi_Full P.p s.p w hw.p).mono fun e w' q=>⟨q.1,q.2▸Below.refl _ _⟩)
 have HQ:=Lib.hid (fun w h=>en_Quantum (B:=B) (P:=P) (s:=s) w h ho)
 have HD:=Lib.hid (add_any wi q (by rw [hwi];exact windowG_le _ _) (by rw [hq];exact ES.quant_le s))
 have HC:=Lib.hid (fun b w h=>cap_any s.bs (min a ad) b w h)
 have HR:=Lib.hid (fun w=>bd_Room s.bs w ho.bs)
 have HL:=Lib.hid (fun w=>conf_Least s.c w ho.c)
 have hm1:min (a:Int) (ad:Int)=((min a ad:Nat):Int):=by omega
 have hm2:min (c2:Int) (rm:Int)=((min c2 rm:Nat):Int):=by omega
 have hm3:min (c2:Int) (wi:Int)=((min c2 wi:Nat):Int):=by omega
 have hm4:max (((min c2 wi):Nat):Int) (le:Int)=((max (min c2 wi) le:Nat):Int):=by omega
 have hm5:min ((max (min c2 wi) le:Nat):Int) 72057594037927936=(z:Int):=by omega
 have z0:(s.st == 0)=false:=beq_eq_false_iff_ne.2 (by omega)
 have z2:(s.st == 2)=false:=beq_eq_false_iff_ne.2 (by omega)
 have z3:(s.st == 3)=false:=beq_eq_false_iff_ne.2 (by omega)
 have z6:(s.st == 6)=true:=beq_iff_eq.2 hs
 have zn:(s.st != 0)=true:=by simp [bne,z0]
 have I0:=Lib.hid (EngI.start h)
 have c18:=h.e.cell (i:=18) (v:=.int .u64 (s.cwnd:Int)) rfl
 rw [← ha] at HA
 rw [← hwi] at HW
 rw [← hq] at HQ
 rw [← had] at HD
 rw [← hc2] at HC
 rw [← hrm] at HR
 rw [← hle] at HL
 clear h ho hac ha hwi hq had hle hrm hc2 hz hs
 generalize s.uses=us at *
 generalize min (max (min c2 wi) le) 72057594037927936=zz at *
 generalize hoo:(min a ad)=o1 at *
 generalize hvv:(min c2 wi)=v3 at *
 generalize max v3 le=mx at *
 simp only [BS.cells] at HC HR
 simp only [ccells] at HL
 go_enter Tryz.func181,Tryz.ntmps181
 go_wp2_with fail
 refine (HA.out _ _ (by exact (nc2f _ _ _ _ _ (by simp)).1) (by exact (nc2f _ _ _ _ _ (by simp)).2)).mono ?_
 rintro e w1 ⟨rfl,hb⟩
 have I1:=Lib.hid ((I0.out.to (al_be _ _)).to hb)
 clear hb c18 I0 HA
 go_wp2_with fail
 have I2:=Lib.hid I1.out.drew
 have r13:=ei_r (W:=W) (B:=B) (P:=P) (s:=s) (i:=13) (v:=.int .i64 s.st) rfl
 go_region_held3 (fun w'=>Hid (EngI W B P s w'))
  (first | with_reducible exact ei_k (by assumption) hb | with_reducible exact I2)
  (first
   | (go_at_call 253;(with_reducible refine (HU.out _ (Hid.out (by assumption):EngI W B P s _).at_).mono ?_);rintro e w' ⟨rfl,hb⟩)
   | (go_at_call 252;(with_reducible refine (HW.out _ (Hid.out (by assumption):EngI W B P s _).at_.gl).mono ?_);rintro e w' ⟨rfl,hb⟩))
 have I3:Hid (EngI W B P s w'):=by assumption
 clear r13 hb I1 I2
 have c13:=I3.out.at_.e.cell (i:=13) (v:=.int .i64 s.st) rfl
 have c6:=I3.out.at_.e.cell (i:=6) (v:=.pointer (some ⟨P.p,0,none⟩)) rfl
 have c7:=I3.out.at_.e.cell (i:=7) (v:=.int .u64 (s.bs.hi:Int)) rfl
 have c8:=I3.out.at_.e.cell (i:=8) (v:=.int .u64 (s.bs.lo:Int)) rfl
 have c9:=I3.out.at_.e.cell (i:=9) (v:=.int .u64 (s.bs.bw:Int)) rfl
 go_wp2_with fail
 refine (HQ.out _ I3.out.at_).mono ?_
 rintro e w13 ⟨rfl,hb⟩
 have I4:=Lib.hid (I3.out.to hb)
 clear hb
 go_wp2_with fail
 refine (HD.out _ _ (by exact (nc2f _ _ _ _ _ (by simp)).1) (by exact (nc2f _ _ _ _ _ (by simp)).2)).mono ?_
 rintro e w14 ⟨rfl,hb⟩
 have I5:=Lib.hid ((I4.out.to (al_be _ _)).to hb)
 clear hb
 have c7:=I5.out.at_.e.cell (i:=7) (v:=.int .u64 (s.bs.hi:Int)) rfl
 have c8:=I5.out.at_.e.cell (i:=8) (v:=.int .u64 (s.bs.lo:Int)) rfl
 have c9:=I5.out.at_.e.cell (i:=9) (v:=.int .u64 (s.bs.bw:Int)) rfl
 have c13:=I5.out.at_.e.cell (i:=13) (v:=.int .i64 s.st) rfl
 go_wp2_with fail
 refine (HC.out _ _ (by first | exact nc1e _ _ _ _ (by simp) | (rw [hoo];exact nc1e _ _ _ _ (by simp)))).mono ?_
 rintro e w15 ⟨rfl,hb⟩
 have I6:=Lib.hid ((I5.out.to (al_be _ _)).to hb)
 clear hb
 have c7:=I6.out.at_.e.cell (i:=7) (v:=.int .u64 (s.bs.hi:Int)) rfl
 have c8:=I6.out.at_.e.cell (i:=8) (v:=.int .u64 (s.bs.lo:Int)) rfl
 have c9:=I6.out.at_.e.cell (i:=9) (v:=.int .u64 (s.bs.bw:Int)) rfl
 have c13:=I6.out.at_.e.cell (i:=13) (v:=.int .i64 s.st) rfl
 have c0:=I6.out.at_.e.cell (i:=0) (v:=.int .u64 (s.c 0:Int)) rfl
 have c1:=I6.out.at_.e.cell (i:=1) (v:=.int .u64 (s.c 1:Int)) rfl
 have c2:=I6.out.at_.e.cell (i:=2) (v:=.int .u64 (s.c 2:Int)) rfl
 have c3:=I6.out.at_.e.cell (i:=3) (v:=.int .u64 (s.c 3:Int)) rfl
 have c4:=I6.out.at_.e.cell (i:=4) (v:=.int .u64 (s.c 4:Int)) rfl
 have c5:=I6.out.at_.e.cell (i:=5) (v:=.int .u64 (s.c 5:Int)) rfl
 go_wp2_with fail
 refine (HL.out _).mono ?_
 rintro e w16 ⟨rfl,hb⟩
 have I7:=Lib.hid (I6.out.to hb)
 clear hb
 go_wp2_with fail
 all_goals
  go_ret
  refine ⟨ret_u64 ?_,I7.out.bel⟩
  first | rfl | exact hm5 | omega
set_option maxHeartbeats 1000000 in
theorem en_openn {B k:Nat} {P:EP} {s:ES} (ac:Nat) (hac:ac≤18446744073709551615) (W:World) (h:EngAt W B P s) (ho:s.ok k) (h0:s.st≠0) (h2:s.st≠2) (h3:s.st≠3) (h6:s.st≠6)
  {a wi q ad le rm c2 z:Nat} (ha:a=Pl.addS s.cwnd ac) (hwi:wi=windowG (stG s.st) s.uses) (hq:q=s.quant) (had:ad=Pl.addS wi q) (hle:le=leastC s.c) (hrm:rm=s.bs.room) (hc2:c2=s.bs.cap [min a ad]) (hz:z=min (max (c2) le) 72057594037927936):
  Calls Tryz.prog 181 #[.pointer (some ⟨P.b,0,none⟩),.int .u64 (ac:Int)] W fun e w'=>e=.returned (.int .u64 (z:Int))∧Below W.heap.size W w':=by
 have HA:=Lib.hid (add_any s.cwnd ac ho.cwnd hac)
 have HU:=Lib.hid (fun w h=>en_uses (B:=B) (P:=P) (s:=s) w h ho)
 have HW:=Lib.hid (fun w h=>ga_Window s.st s.uses (ES.uses_le s) w h)
 have HF:Hid (∀w,EngAt w B P s→Calls Tryz.prog 237 #[.pointer (some ⟨P.p,0,none⟩)] w fun e w'=>e=.returned (.bool s.p.full)∧Below w.heap.size w w'):=Lib.hid (fun w hw=>(pi_Full P.p s.p w hw.p).mono fun e w' q=>⟨q.1,q.2▸Below.refl _ _⟩)
 have HQ:=Lib.hid (fun w h=>en_Quantum (B:=B) (P:=P) (s:=s) w h ho)
 have HD:=Lib.hid (add_any wi q (by rw [hwi];exact windowG_le _ _) (by rw [hq];exact ES.quant_le s))
 have HC:=Lib.hid (fun b w h=>cap_any s.bs (min a ad) b w h)
 have HR:=Lib.hid (fun w=>bd_Room s.bs w ho.bs)
 have HL:=Lib.hid (fun w=>conf_Least s.c w ho.c)
 have hm1:min (a:Int) (ad:Int)=((min a ad:Nat):Int):=by omega
 have hm2:min (c2:Int) (rm:Int)=((min c2 rm:Nat):Int):=by omega
 have hm3:min (c2:Int) (wi:Int)=((min c2 wi:Nat):Int):=by omega
 have hm4:max (((c2):Nat):Int) (le:Int)=((max (c2) le:Nat):Int):=by omega
 have hm5:min ((max (c2) le:Nat):Int) 72057594037927936=(z:Int):=by omega
 have z0:(s.st == 0)=false:=beq_eq_false_iff_ne.2 (h0)
 have z2:(s.st == 2)=false:=beq_eq_false_iff_ne.2 (h2)
 have z3:(s.st == 3)=false:=beq_eq_false_iff_ne.2 (h3)
 have z6:(s.st == 6)=false:=beq_eq_false_iff_ne.2 (h6)
 have zn:(s.st != 0)=true:=by simp [bne,z0]
 have I0:=Lib.hid (EngI.start h)
 have c18:=h.e.cell (i:=18) (v:=.int .u64 (s.cwnd:Int)) rfl
 rw [← ha] at HA
 rw [← hwi] at HW
 rw [← hq] at HQ
 rw [← had] at HD
 rw [← hc2] at HC
 rw [← hrm] at HR
 rw [← hle] at HL
 clear h ho hac ha hwi hq had hle hrm hc2 hz h0 h2 h3 h6
 generalize s.uses=us at *
 generalize min (max (c2) le) 72057594037927936=zz at *
 generalize hoo:(min a ad)=o1 at *
 generalize hvv:(c2)=v3 at *
 generalize max v3 le=mx at *
 simp only [BS.cells] at HC HR
 simp only [ccells] at HL
 go_enter Tryz.func181,Tryz.ntmps181
 go_wp2_with fail
 refine (HA.out _ _ (by exact (nc2f _ _ _ _ _ (by simp)).1) (by exact (nc2f _ _ _ _ _ (by simp)).2)).mono ?_
 rintro e w1 ⟨rfl,hb⟩
 have I1:=Lib.hid ((I0.out.to (al_be _ _)).to hb)
 clear hb c18 I0 HA
 go_wp2_with fail
 have I2:=Lib.hid I1.out.drew
 have r13:=ei_r (W:=W) (B:=B) (P:=P) (s:=s) (i:=13) (v:=.int .i64 s.st) rfl
 go_region_held3 (fun w'=>Hid (EngI W B P s w'))
  (first | with_reducible exact ei_k (by assumption) hb | with_reducible exact I2)
  (first
   | (go_at_call 253;(with_reducible refine (HU.out _ (Hid.out (by assumption):EngI W B P s _).at_).mono ?_);rintro e w' ⟨rfl,hb⟩)
   | (go_at_call 252;(with_reducible refine (HW.out _ (Hid.out (by assumption):EngI W B P s _).at_.gl).mono ?_);rintro e w' ⟨rfl,hb⟩))
 have I3:Hid (EngI W B P s w'):=by assumption
 clear r13 hb I1 I2
 have c13:=I3.out.at_.e.cell (i:=13) (v:=.int .i64 s.st) rfl
 have c6:=I3.out.at_.e.cell (i:=6) (v:=.pointer (some ⟨P.p,0,none⟩)) rfl
 have c7:=I3.out.at_.e.cell (i:=7) (v:=.int .u64 (s.bs.hi:Int)) rfl
 have c8:=I3.out.at_.e.cell (i:=8) (v:=.int .u64 (s.bs.lo:Int)) rfl
 have c9:=I3.out.at_.e.cell (i:=9) (v:=.int .u64 (s.bs.bw:Int)) rfl
 go_wp2_with fail
 refine (HQ.out _ I3.out.at_).mono ?_
 rintro e w13 ⟨rfl,hb⟩
 have I4:=Lib.hid (I3.out.to hb)
 clear hb
 go_wp2_with fail
 refine (HD.out _ _ (by exact (nc2f _ _ _ _ _ (by simp)).1) (by exact (nc2f _ _ _ _ _ (by simp)).2)).mono ?_
 rintro e w14 ⟨rfl,hb⟩
 have I5:=Lib.hid ((I4.out.to (al_be _ _)).to hb)
 clear hb
 have c7:=I5.out.at_.e.cell (i:=7) (v:=.int .u64 (s.bs.hi:Int)) rfl
 have c8:=I5.out.at_.e.cell (i:=8) (v:=.int .u64 (s.bs.lo:Int)) rfl
 have c9:=I5.out.at_.e.cell (i:=9) (v:=.int .u64 (s.bs.bw:Int)) rfl
 have c13:=I5.out.at_.e.cell (i:=13) (v:=.int .i64 s.st) rfl
 go_wp2_with fail
 refine (HC.out _ _ (by first | exact nc1e _ _ _ _ (by simp) | (rw [hoo];exact nc1e _ _ _ _ (by simp)))).mono ?_
 rintro e w15 ⟨rfl,hb⟩
 have I6:=Lib.hid ((I5.out.to (al_be _ _)).to hb)
 clear hb
 have c7:=I6.out.at_.e.cell (i:=7) (v:=.int .u64 (s.bs.hi:Int)) rfl
 have c8:=I6.out.at_.e.cell (i:=8) (v:=.int .u64 (s.bs.lo:Int)) rfl
 have c9:=I6.out.at_.e.cell (i:=9) (v:=.int .u64 (s.bs.bw:Int)) rfl
 have c13:=I6.out.at_.e.cell (i:=13) (v:=.int .i64 s.st) rfl
 have c0:=I6.out.at_.e.cell (i:=0) (v:=.int .u64 (s.c 0:Int)) rfl
 have c1:=I6.out.at_.e.cell (i:=1) (v:=.int .u64 (s.c 1:Int)) rfl
 have c2:=I6.out.at_.e.cell (i:=2) (v:=.int .u64 (s.c 2:Int)) rfl
 have c3:=I6.out.at_.e.cell (i:=3) (v:=.int .u64 (s.c 3:Int)) rfl
 have c4:=I6.out.at_.e.cell (i:=4) (v:=.int .u64 (s.c 4:Int)) rfl
 have c5:=I6.out.at_.e.cell (i:=5) (v:=.int .u64 (s.c 5:Int)) rfl
 go_wp2_with fail
 refine (HL.out _).mono ?_
 rintro e w16 ⟨rfl,hb⟩
 have I7:=Lib.hid (I6.out.to hb)
 clear hb
 go_wp2_with fail
 all_goals
  go_ret
  refine ⟨ret_u64 ?_,I7.out.bel⟩
  first | rfl | exact hm5 | omega
theorem en_open {B k:Nat} {P:EP} {s:ES} (ac:Nat) (hac:ac≤18446744073709551615) (W:World) (h:EngAt W B P s) (ho:s.ok k):
  Calls Tryz.prog 181 #[.pointer (some ⟨P.b,0,none⟩),.int .u64 (ac:Int)] W fun e w'=>e=.returned (.int .u64 ((s.open ac:Nat):Int))∧Below W.heap.size W w':=by
 by_cases h0:s.st=0
 ·cases hf:s.p.full with
  | false=>exact en_open0 ac hac W h ho h0 hf rfl rfl rfl rfl rfl rfl rfl (by simp [ES.open,ES.o3,ES.o2,ES.o1,h0,hf])
  | true=>exact en_open0f ac hac W h ho h0 hf rfl rfl rfl rfl rfl rfl rfl (by simp [ES.open,ES.o3,ES.o2,ES.o1,h0,hf])
 ·by_cases h2:s.st=2
  ·exact en_open2 ac hac W h ho h2 rfl rfl rfl rfl rfl rfl rfl (by simp [ES.open,ES.o3,ES.o2,ES.o1,h2])
  ·by_cases h3:s.st=3
   ·exact en_open3 ac hac W h ho h3 rfl rfl rfl rfl rfl rfl rfl (by simp [ES.open,ES.o3,ES.o2,ES.o1,h3])
   ·by_cases h6:s.st=6
    ·exact en_open6 ac hac W h ho h6 rfl rfl rfl rfl rfl rfl rfl (by simp [ES.open,ES.o3,ES.o2,ES.o1,h6])
    ·exact en_openn ac hac W h ho h0 h2 h3 h6 rfl rfl rfl rfl rfl rfl rfl (by simp [ES.open,ES.o3,ES.o2,ES.o1,h0,h2,h3,h6])
end Go.Proofs.YteoepabmnbkabaaGreatDoor

set_option linter.unusedVariables false
namespace Go.Proofs.YteoepabmnbkabaaGreatDoor
open Go.RowKit Cf
def EvS.smp (x:EvS):Array Value:=#[.int .u64 (x.sd:Int),.int .u64 (x.si:Int),.int .u64 (x.sr:Int),.int .u64 (x.rt:Int),.bool x.sl]
structure MeaI (W:World) (B:Nat) (P:EP) (s:ES) (x:EvS) (w:World):Prop where
 m:MutI W B P s x w
 sm:Blk w (W.heap.size + 1) 108 x.smp
theorem MeaI.to {W w w':World} {B:Nat} {P:EP} {s:ES} {x:EvS} (h:MeaI W B P s x w) (k:Below w.heap.size w w'):MeaI W B P s x w':=⟨h.m.to k,h.sm.keep k⟩
theorem MeaI.drew {W w:World} {B:Nat} {P:EP} {s:ES} {x:EvS} (h:MeaI W B P s x w):MeaI W B P s x w.drew:=h.to ((Drawn.drew w).below _)
theorem MeaI.cat {W w w':World} {B:Nat} {P:EP} {s s':ES} {x:EvS} (h:MeaI W B P s x w) (k:MutN w B P s' w'):MeaI W B P s' x w':=⟨MutN.mi h.m k,k.kt _ (by decide) _ _ h.sm⟩
theorem MeaI.start {W:World} {B:Nat} {P:EP} {s:ES} (h:EngAt W B P s) (x:EvS):MeaI W B P s x ((W.alloc (.cells x.cells 110)).alloc (.cells x.smp 108)):=
 ⟨(MutI.start h x).to (al_be _ _),Blk.new1 W _ _ _⟩
def MeaX (W:World) (B:Nat) (P:EP) (x:EvS) (w:World):Prop:=∃s,MeaI W B P s x w
theorem mx_of {W w:World} {B:Nat} {P:EP} {s:ES} {x:EvS} (h:Hid (MeaI W B P s x w)):Hid (MeaX W B P x w):=Lib.hid ⟨s,h.out⟩
theorem mx_k {W w w':World} {B:Nat} {P:EP} {x:EvS} (h:Hid (MeaX W B P x w)) (k:Below w.heap.size w w'):Hid (MeaX W B P x w'):=by
 obtain ⟨s,q⟩:=h.out
 exact Lib.hid ⟨s,q.to k⟩
theorem mx_ev {W:World} {B:Nat} {P:EP} {x:EvS} {i:Nat} {v:Value} (hv:x.cells[i]? =some v):∀w,Hid (MeaX W B P x w)→w.cell? ⟨W.heap.size,i,none⟩=some v:=fun w q=>by
 obtain ⟨s,h⟩:=q.out
 exact h.m.ev.cell hv
theorem mx_s {W:World} {B:Nat} {P:EP} {x:EvS} {i:Nat} {v:Value} (hv:x.smp[i]? =some v):∀w,Hid (MeaX W B P x w)→w.cell? ⟨W.heap.size + 1,i,none⟩=some v:=fun w q=>by
 obtain ⟨s,h⟩:=q.out
 exact h.sm.cell hv
theorem mx_p {W:World} {B:Nat} {P:EP} {x:EvS} {i:Nat} {v:Value} (hv:∀s,(ecells P s)[i]? =some v):∀w,Hid (MeaX W B P x w)→w.cell? ⟨P.b,i,none⟩=some v:=fun w q=>by
 obtain ⟨s,h⟩:=q.out
 exact h.m.at_.e.cell (hv s)
theorem mi_p {W:World} {B:Nat} {P:EP} {s:ES} {x:EvS} {i:Nat} {v:Value} (hv:(ecells P s)[i]? =some v):∀w,Hid (MeaI W B P s x w)→w.cell? ⟨P.b,i,none⟩=some v:=fun w q=>q.out.m.at_.e.cell hv
theorem mi_k {W w w':World} {B:Nat} {P:EP} {s:ES} {x:EvS} (h:Hid (MeaI W B P s x w)) (k:Below w.heap.size w w'):Hid (MeaI W B P s x w'):=Lib.hid (h.out.to k)
theorem put_any (y:CY) (p x b:Nat) (W:World) (hy:CyAt W p y) (h:W.cell? ⟨b,0,none⟩=some (.int .u64 (x:Int))) (hne:b≠p):
  Calls Tryz.prog 235 #[.pointer (some ⟨p,0,none⟩),.slice (some ⟨b,0,none⟩) 1 1] W fun e w'=>e=.returned (.tuple #[])∧CyAt w' p (y.put [x])∧W.grownBy w' (some p):=
 cy_Put p y (some ⟨b,0,none⟩) 1 [x] W hy (fun _=>⟨b,0,rfl,World.block_lt_of_cell? W _ h,fun i hi=>by
  match i,hi with
  | 0,_=>exact h⟩) (fun _ a ha=>by cases ha;exact hne) (by simp)
theorem nc1g (W:World) (b x:Nat) (T:TypeId) (hb:b=W.heap.size):(W.alloc (.cells #[.int .u64 (x:Int)] T)).cell? ⟨b,0,none⟩=some (.int .u64 (x:Int)):=by subst hb;exact new_cell rfl rfl
set_option maxHeartbeats 1000000 in
theorem en_measure_n {B k:Nat} {P:EP} {s:ES} {now sd si sr rt dl ac lo fl:Nat} {sl:Bool} (hx:EvS.ok ⟨now,sd,si,sr,rt,sl,false,dl,ac,lo,fl⟩) (W:World) (h:EngAt W B P s) (ho:s.ok k):
  Calls Tryz.prog 173 #[.pointer (some ⟨P.b,0,none⟩),EvS.val ⟨now,sd,si,sr,rt,sl,false,dl,ac,lo,fl⟩] W (EPost B P (.returned (.bool false)) {s with f:=s.f.to now} W):=by
 have M0:=Lib.hid (MutI.start h ⟨now,sd,si,sr,rt,sl,false,dl,ac,lo,fl⟩)
 obtain ⟨g,hg,hf⟩:=M0.out.drew.at_.f
 have HT:=Lib.hid (fl_To P.a P.r g now s.f _ hf ho.f hx.now)
 have HF:=Lib.hid hf
 have M1:=Lib.hid M0.out.drew
 have c10:=M1.out.at_.e.cell (i:=10) (v:=.pointer (some ⟨P.a,0,none⟩)) rfl
 have e0:=M1.out.ev.cell (i:=0) (v:=.int .u64 (now:Int)) rfl
 clear h ho hx hf
 unfold EvS.val
 simp only [EvS.cells] at M0 M1 HT HF c10 e0 ⊢
 go_enter Tryz.func173,Tryz.ntmps173
 go_wp2_with fail
 generalize W.alloc (.cells #[.int .u64 (now:Int),.int .u64 (sd:Int),.int .u64 (si:Int),.int .u64 (sr:Int),.int .u64 (rt:Int),.bool sl,.bool false,.int .u64 (dl:Int),.int .u64 (ac:Int),.int .u64 (lo:Int),.int .u64 (fl:Int)] 110)=w0 at *
 go_region_with (first
  | (go_at_call 233;(refine HT.out.mono ?_);rintro e w1 hp;obtain rfl:=hp.e;have M2:=Lib.hid (MutN.mi M1.out (MutN.fl M1.out.at_ hg HF.out hp));clear hp))
 all_goals
  clear M0 M1 c10 e0 HT
  go_wp2_with fail
  go_ret
  exact ⟨rfl,M2.out.at_,M2.out.bel,M2.out.kt⟩
set_option maxHeartbeats 2000000 in
theorem en_measure_f {B k:Nat} {P:EP} {s:ES} {now sd si sr rt dl ac lo fl:Nat} (hx:EvS.ok ⟨now,sd,si,sr,rt,false,true,dl,ac,lo,fl⟩) (W:World) (h:EngAt W B P s) (ho:s.ok k) (hk:k≤900):
  Calls Tryz.prog 173 #[.pointer (some ⟨P.b,0,none⟩),EvS.val ⟨now,sd,si,sr,rt,false,true,dl,ac,lo,fl⟩] W (EPost B P (.returned (.bool (s.n.ackB (Pl.subS dl sd)))) {s with f:=s.f.put now rt,y:=s.y.put [sr],n:=s.n.ackS (Pl.subS dl sd) dl} W):=by
 have M0:=Lib.hid (MeaI.start h ⟨now,sd,si,sr,rt,false,true,dl,ac,lo,fl⟩)
 have M1:=Lib.hid M0.out.drew
 obtain ⟨g,hg,hf⟩:=M1.out.m.at_.f
 have HP:=Lib.hid (fl_Put P.a P.r g now rt s.f _ hf ho.f hx.now)
 have HF:=Lib.hid hf
 have HB:=Lib.hid (fun w h=>cy_Best P.y s.y w h)
 have HC:=Lib.hid (fun b w=>put_any s.y P.y sr b w)
 have HS:=Lib.hid (fun b w hw=>sub_any dl sd b hx.dl hx.sd w hw)
 have HA:=Lib.hid (fun w h=>ct_Ack P.n (Pl.subS dl sd) dl s.n w h (Nat.lt_of_le_of_lt ho.nn (by omega)))
 have p10:=mx_p (W:=W) (B:=B) (P:=P) (x:=⟨now,sd,si,sr,rt,false,true,dl,ac,lo,fl⟩) (i:=10) (v:=.pointer (some ⟨P.a,0,none⟩)) (fun _=>rfl)
 have p11:=mx_p (W:=W) (B:=B) (P:=P) (x:=⟨now,sd,si,sr,rt,false,true,dl,ac,lo,fl⟩) (i:=11) (v:=.pointer (some ⟨P.y,0,none⟩)) (fun _=>rfl)
 have p12:=mx_p (W:=W) (B:=B) (P:=P) (x:=⟨now,sd,si,sr,rt,false,true,dl,ac,lo,fl⟩) (i:=12) (v:=.pointer (some ⟨P.n,0,none⟩)) (fun _=>rfl)
 have v0:=mx_ev (W:=W) (B:=B) (P:=P) (x:=⟨now,sd,si,sr,rt,false,true,dl,ac,lo,fl⟩) (i:=0) (v:=.int .u64 (now:Int)) rfl
 have v7:=mx_ev (W:=W) (B:=B) (P:=P) (x:=⟨now,sd,si,sr,rt,false,true,dl,ac,lo,fl⟩) (i:=7) (v:=.int .u64 (dl:Int)) rfl
 have q0:=mx_s (W:=W) (B:=B) (P:=P) (x:=⟨now,sd,si,sr,rt,false,true,dl,ac,lo,fl⟩) (i:=0) (v:=.int .u64 (sd:Int)) rfl
 have q2:=mx_s (W:=W) (B:=B) (P:=P) (x:=⟨now,sd,si,sr,rt,false,true,dl,ac,lo,fl⟩) (i:=2) (v:=.int .u64 (sr:Int)) rfl
 have q3:=mx_s (W:=W) (B:=B) (P:=P) (x:=⟨now,sd,si,sr,rt,false,true,dl,ac,lo,fl⟩) (i:=3) (v:=.int .u64 (rt:Int)) rfl
 have q4:=mx_s (W:=W) (B:=B) (P:=P) (x:=⟨now,sd,si,sr,rt,false,true,dl,ac,lo,fl⟩) (i:=4) (v:=.bool false) rfl
 clear h ho hx hf hk
 unfold EvS.val
 generalize hX:(EvS.mk now sd si sr rt false true dl ac lo fl)=X at *
 have HE:Hid (X.cells=#[.int .u64 (now:Int),.int .u64 (sd:Int),.int .u64 (si:Int),.int .u64 (sr:Int),.int .u64 (rt:Int),.bool false,.bool true,.int .u64 (dl:Int),.int .u64 (ac:Int),.int .u64 (lo:Int),.int .u64 (fl:Int)]):=Lib.hid (by rw [← hX];rfl)
 have HSm:Hid (X.smp=#[.int .u64 (sd:Int),.int .u64 (si:Int),.int .u64 (sr:Int),.int .u64 (rt:Int),.bool false]):=Lib.hid (by rw [← hX];rfl)
 clear hX
 rw [HE.out] at M0 M1 HP HF ⊢
 rw [HSm.out] at M0 M1 HP HF
 go_enter Tryz.func173,Tryz.ntmps173
 go_wp2_with fail
 generalize ((W.alloc (.cells #[.int .u64 (now:Int),.int .u64 (sd:Int),.int .u64 (si:Int),.int .u64 (sr:Int),.int .u64 (rt:Int),.bool false,.bool true,.int .u64 (dl:Int),.int .u64 (ac:Int),.int .u64 (lo:Int),.int .u64 (fl:Int)] 110)).alloc (.cells #[.int .u64 (sd:Int),.int .u64 (si:Int),.int .u64 (sr:Int),.int .u64 (rt:Int),.bool false] 108))=w0 at *
 have X1:=mx_of M1
 go_region_held3 (fun w'=>Hid (MeaX W B P X w'))
  (first | with_reducible exact X1 | with_reducible exact X2)
  (first
   | (go_at_call 234;(with_reducible refine HP.out.mono ?_);rintro e w1 hp;obtain rfl:=hp.e;have M2:=Lib.hid (M1.out.cat (MutN.fl M1.out.m.at_ hg HF.out hp));have X2:=mx_of M2;clear hp))
 clear HP HF M0 M1 X1
 go_wp2_with fail
 have M3:=Lib.hid M2.out.drew
 clear X2
 have b4:=q4 _ (mx_of M2)
 go_region
 have M4:=M3
 clear M2 HB b4
 go_wp2_with fail
 have M5:=Lib.hid M4.out.drew
 have X5:=mx_of M5
 go_region_held3 (fun w'=>Hid (MeaX W B P X w'))
  (first | with_reducible exact X5 | with_reducible exact mx_k X5 (al_be _ _) | with_reducible exact mx_k (by assumption) (al_be _ _) | with_reducible exact mx_k (by assumption) (al_dr _ _) | with_reducible exact X6 | with_reducible exact mx_of (Lib.hid (M4.out.to (al_dr _ _))))
  (first
   | (go_at_call 235;(refine (HC.out _ _ (by first | exact (M4.out.to (al_dr _ _)).m.at_.y | exact (M5.out.to (al_be _ _)).m.at_.y) (by first | exact cell_dr (nc1g _ _ _ _ (by simp)) | exact nc1g _ _ _ _ (by simp)) (Nat.ne_of_gt (Blk.lt M4.out.m.at_.y))).mono ?_);rintro e w3 ⟨rfl,hy,hgr⟩;have M6:Hid (MeaI W B P {s with f:=s.f.put now rt,y:=s.y.put [sr]} X w3):=(by first | exact Lib.hid ((M4.out.to (al_dr _ _)).cat (MutN.cy (M4.out.to (al_dr _ _)).m.at_ hy hgr)) | exact Lib.hid ((M5.out.to (al_be _ _)).cat (MutN.cy (M5.out.to (al_be _ _)).m.at_ hy hgr)));have X6:=mx_of M6;clear hy hgr))
 clear M4 M5 X5 X6
 go_wp2_with fail
 have M7:=Lib.hid M6.out.drew
 have X7:=mx_of M7
 go_region_held3 (fun w'=>Hid (MeaX W B P X w'))
  (first | with_reducible exact X7 | with_reducible exact mx_k X7 (al_be _ _) | with_reducible assumption | with_reducible exact mx_k (by assumption) (al_be _ _) | with_reducible exact mx_k (by assumption) (al_dr _ _) | with_reducible exact X8 | with_reducible exact mx_of (Lib.hid (M6.out.to (al_dr _ _))))
  (first
   | (go_at_call 114;(refine (HS.out _ _ (by first | exact cell_dr (nc1g _ _ _ _ (by simp)) | exact nc1g _ _ _ _ (by simp))).mono ?_);rintro e w4 ⟨rfl,rfl⟩)
   | (go_at_call 236;(refine (HA.out _ (by first | exact (M6.out.to (al_dr _ _)).m.at_.n | exact (M7.out.to (al_be _ _)).m.at_.n)).mono ?_);rintro e w5 hp;obtain rfl:=hp.e;have M8:Hid (MeaI W B P {s with f:=s.f.put now rt,y:=s.y.put [sr],n:=s.n.ackS (Pl.subS dl sd) dl} X w5):=(by first | exact Lib.hid ((M6.out.to (al_dr _ _)).cat (MutN.ct (M6.out.to (al_dr _ _)).m.at_ hp.blk hp.gr)) | exact Lib.hid ((M7.out.to (al_be _ _)).cat (MutN.ct (M7.out.to (al_be _ _)).m.at_ hp.blk hp.gr)));have X8:=mx_of M8;clear hp))
 go_wp2_with fail
 go_ret
 exact ⟨rfl,M8.out.m.at_,M8.out.m.bel,M8.out.m.kt⟩
set_option maxHeartbeats 2000000 in
theorem en_measure_y {B k:Nat} {P:EP} {s:ES} {now sd si sr rt dl ac lo fl:Nat} (hx:EvS.ok ⟨now,sd,si,sr,rt,true,true,dl,ac,lo,fl⟩) (W:World) (h:EngAt W B P s) (ho:s.ok k) (hk:k≤900) (hb:s.y.best≤sr):
  Calls Tryz.prog 173 #[.pointer (some ⟨P.b,0,none⟩),EvS.val ⟨now,sd,si,sr,rt,true,true,dl,ac,lo,fl⟩] W (EPost B P (.returned (.bool (s.n.ackB (Pl.subS dl sd)))) {s with f:=s.f.put now rt,y:=s.y.put [sr],n:=s.n.ackS (Pl.subS dl sd) dl} W):=by
 have d0:decide ((s.y.best:Int)≤(sr:Int))=true:=decide_eq_true (by omega)
 have d1:decide (s.y.best≤sr)=true:=decide_eq_true hb
 clear hb
 have M0:=Lib.hid (MeaI.start h ⟨now,sd,si,sr,rt,true,true,dl,ac,lo,fl⟩)
 have M1:=Lib.hid M0.out.drew
 obtain ⟨g,hg,hf⟩:=M1.out.m.at_.f
 have HP:=Lib.hid (fl_Put P.a P.r g now rt s.f _ hf ho.f hx.now)
 have HF:=Lib.hid hf
 have HB:=Lib.hid (fun w h=>cy_Best P.y s.y w h)
 have HC:=Lib.hid (fun b w=>put_any s.y P.y sr b w)
 have HS:=Lib.hid (fun b w hw=>sub_any dl sd b hx.dl hx.sd w hw)
 have HA:=Lib.hid (fun w h=>ct_Ack P.n (Pl.subS dl sd) dl s.n w h (Nat.lt_of_le_of_lt ho.nn (by omega)))
 have p10:=mx_p (W:=W) (B:=B) (P:=P) (x:=⟨now,sd,si,sr,rt,true,true,dl,ac,lo,fl⟩) (i:=10) (v:=.pointer (some ⟨P.a,0,none⟩)) (fun _=>rfl)
 have p11:=mx_p (W:=W) (B:=B) (P:=P) (x:=⟨now,sd,si,sr,rt,true,true,dl,ac,lo,fl⟩) (i:=11) (v:=.pointer (some ⟨P.y,0,none⟩)) (fun _=>rfl)
 have p12:=mx_p (W:=W) (B:=B) (P:=P) (x:=⟨now,sd,si,sr,rt,true,true,dl,ac,lo,fl⟩) (i:=12) (v:=.pointer (some ⟨P.n,0,none⟩)) (fun _=>rfl)
 have v0:=mx_ev (W:=W) (B:=B) (P:=P) (x:=⟨now,sd,si,sr,rt,true,true,dl,ac,lo,fl⟩) (i:=0) (v:=.int .u64 (now:Int)) rfl
 have v7:=mx_ev (W:=W) (B:=B) (P:=P) (x:=⟨now,sd,si,sr,rt,true,true,dl,ac,lo,fl⟩) (i:=7) (v:=.int .u64 (dl:Int)) rfl
 have q0:=mx_s (W:=W) (B:=B) (P:=P) (x:=⟨now,sd,si,sr,rt,true,true,dl,ac,lo,fl⟩) (i:=0) (v:=.int .u64 (sd:Int)) rfl
 have q2:=mx_s (W:=W) (B:=B) (P:=P) (x:=⟨now,sd,si,sr,rt,true,true,dl,ac,lo,fl⟩) (i:=2) (v:=.int .u64 (sr:Int)) rfl
 have q3:=mx_s (W:=W) (B:=B) (P:=P) (x:=⟨now,sd,si,sr,rt,true,true,dl,ac,lo,fl⟩) (i:=3) (v:=.int .u64 (rt:Int)) rfl
 have q4:=mx_s (W:=W) (B:=B) (P:=P) (x:=⟨now,sd,si,sr,rt,true,true,dl,ac,lo,fl⟩) (i:=4) (v:=.bool true) rfl
 clear h ho hx hf hk
 unfold EvS.val
 generalize hX:(EvS.mk now sd si sr rt true true dl ac lo fl)=X at *
 have HE:Hid (X.cells=#[.int .u64 (now:Int),.int .u64 (sd:Int),.int .u64 (si:Int),.int .u64 (sr:Int),.int .u64 (rt:Int),.bool true,.bool true,.int .u64 (dl:Int),.int .u64 (ac:Int),.int .u64 (lo:Int),.int .u64 (fl:Int)]):=Lib.hid (by rw [← hX];rfl)
 have HSm:Hid (X.smp=#[.int .u64 (sd:Int),.int .u64 (si:Int),.int .u64 (sr:Int),.int .u64 (rt:Int),.bool true]):=Lib.hid (by rw [← hX];rfl)
 clear hX
 rw [HE.out] at M0 M1 HP HF ⊢
 rw [HSm.out] at M0 M1 HP HF
 go_enter Tryz.func173,Tryz.ntmps173
 go_wp2_with fail
 generalize ((W.alloc (.cells #[.int .u64 (now:Int),.int .u64 (sd:Int),.int .u64 (si:Int),.int .u64 (sr:Int),.int .u64 (rt:Int),.bool true,.bool true,.int .u64 (dl:Int),.int .u64 (ac:Int),.int .u64 (lo:Int),.int .u64 (fl:Int)] 110)).alloc (.cells #[.int .u64 (sd:Int),.int .u64 (si:Int),.int .u64 (sr:Int),.int .u64 (rt:Int),.bool true] 108))=w0 at *
 have X1:=mx_of M1
 go_region_held3 (fun w'=>Hid (MeaX W B P X w'))
  (first | with_reducible exact X1 | with_reducible exact X2)
  (first
   | (go_at_call 234;(with_reducible refine HP.out.mono ?_);rintro e w1 hp;obtain rfl:=hp.e;have M2:=Lib.hid (M1.out.cat (MutN.fl M1.out.m.at_ hg HF.out hp));have X2:=mx_of M2;clear hp))
 clear HP HF M0 M1 X1
 go_wp2_with fail
 have M3:=Lib.hid M2.out.drew
 clear X2
 have X3:=mx_of M3
 have i11:=mi_p (W:=W) (B:=B) (P:=P) (s:={s with f:=s.f.put now rt}) (x:=X) (i:=11) (v:=.pointer (some ⟨P.y,0,none⟩)) rfl
 have i2:=fun w (q:Hid (MeaI W B P {s with f:=s.f.put now rt} X w))=>q2 w (mx_of q)
 have i4:=fun w (q:Hid (MeaI W B P {s with f:=s.f.put now rt} X w))=>q4 w (mx_of q)
 go_region_held3 (fun w'=>Hid (MeaI W B P {s with f:=s.f.put now rt} X w'))
  (first | with_reducible exact mi_k (by assumption) hb | with_reducible exact M3)
  (first
   | (go_at_call 162;(with_reducible refine (HB.out _ M3.out.m.at_.y).mono ?_);rintro e w2 ⟨rfl,hb⟩))
 have M4:Hid (MeaI W B P {s with f:=s.f.put now rt} X w2):=Lib.hid (M3.out.to hb)
 clear i11 i2 i4 X3 hb
 clear M2 M3 HB
 go_wp2_with fail
 have M5:=Lib.hid M4.out.drew
 have X5:=mx_of M5
 go_region_held3 (fun w'=>Hid (MeaX W B P X w'))
  (first | with_reducible exact X5 | with_reducible exact mx_k X5 (al_be _ _) | with_reducible exact mx_k (by assumption) (al_be _ _) | with_reducible exact mx_k (by assumption) (al_dr _ _) | with_reducible exact X6 | with_reducible exact mx_of (Lib.hid (M4.out.to (al_dr _ _))))
  (first
   | (go_at_call 235;(refine (HC.out _ _ (by first | exact (M4.out.to (al_dr _ _)).m.at_.y | exact (M5.out.to (al_be _ _)).m.at_.y) (by first | exact cell_dr (nc1g _ _ _ _ (by simp)) | exact nc1g _ _ _ _ (by simp)) (Nat.ne_of_gt (Blk.lt M4.out.m.at_.y))).mono ?_);rintro e w3 ⟨rfl,hy,hgr⟩;have M6:Hid (MeaI W B P {s with f:=s.f.put now rt,y:=s.y.put [sr]} X w3):=(by first | exact Lib.hid ((M4.out.to (al_dr _ _)).cat (MutN.cy (M4.out.to (al_dr _ _)).m.at_ hy hgr)) | exact Lib.hid ((M5.out.to (al_be _ _)).cat (MutN.cy (M5.out.to (al_be _ _)).m.at_ hy hgr)));have X6:=mx_of M6;clear hy hgr))
 clear M4 M5 X5 X6
 go_wp2_with fail
 have M7:=Lib.hid M6.out.drew
 have X7:=mx_of M7
 go_region_held3 (fun w'=>Hid (MeaX W B P X w'))
  (first | with_reducible exact X7 | with_reducible exact mx_k X7 (al_be _ _) | with_reducible assumption | with_reducible exact mx_k (by assumption) (al_be _ _) | with_reducible exact mx_k (by assumption) (al_dr _ _) | with_reducible exact X8 | with_reducible exact mx_of (Lib.hid (M6.out.to (al_dr _ _))))
  (first
   | (go_at_call 114;(refine (HS.out _ _ (by first | exact cell_dr (nc1g _ _ _ _ (by simp)) | exact nc1g _ _ _ _ (by simp))).mono ?_);rintro e w4 ⟨rfl,rfl⟩)
   | (go_at_call 236;(refine (HA.out _ (by first | exact (M6.out.to (al_dr _ _)).m.at_.n | exact (M7.out.to (al_be _ _)).m.at_.n)).mono ?_);rintro e w5 hp;obtain rfl:=hp.e;have M8:Hid (MeaI W B P {s with f:=s.f.put now rt,y:=s.y.put [sr],n:=s.n.ackS (Pl.subS dl sd) dl} X w5):=(by first | exact Lib.hid ((M6.out.to (al_dr _ _)).cat (MutN.ct (M6.out.to (al_dr _ _)).m.at_ hp.blk hp.gr)) | exact Lib.hid ((M7.out.to (al_be _ _)).cat (MutN.ct (M7.out.to (al_be _ _)).m.at_ hp.blk hp.gr)));have X8:=mx_of M8;clear hp))
 go_wp2_with fail
 go_ret
 exact ⟨rfl,M8.out.m.at_,M8.out.m.bel,M8.out.m.kt⟩
set_option maxHeartbeats 2000000 in
theorem en_measure_x {B k:Nat} {P:EP} {s:ES} {now sd si sr rt dl ac lo fl:Nat} (hx:EvS.ok ⟨now,sd,si,sr,rt,true,true,dl,ac,lo,fl⟩) (W:World) (h:EngAt W B P s) (ho:s.ok k) (hk:k≤900) (hb:¬ s.y.best≤sr):
  Calls Tryz.prog 173 #[.pointer (some ⟨P.b,0,none⟩),EvS.val ⟨now,sd,si,sr,rt,true,true,dl,ac,lo,fl⟩] W (EPost B P (.returned (.bool (s.n.ackB (Pl.subS dl sd)))) {s with f:=s.f.put now rt,y:=s.y,n:=s.n.ackS (Pl.subS dl sd) dl} W):=by
 have d0:decide ((s.y.best:Int)≤(sr:Int))=false:=decide_eq_false (by omega)
 have d1:decide (s.y.best≤sr)=false:=decide_eq_false hb
 clear hb
 have M0:=Lib.hid (MeaI.start h ⟨now,sd,si,sr,rt,true,true,dl,ac,lo,fl⟩)
 have M1:=Lib.hid M0.out.drew
 obtain ⟨g,hg,hf⟩:=M1.out.m.at_.f
 have HP:=Lib.hid (fl_Put P.a P.r g now rt s.f _ hf ho.f hx.now)
 have HF:=Lib.hid hf
 have HB:=Lib.hid (fun w h=>cy_Best P.y s.y w h)
 have HC:=Lib.hid (fun b w=>put_any s.y P.y sr b w)
 have HS:=Lib.hid (fun b w hw=>sub_any dl sd b hx.dl hx.sd w hw)
 have HA:=Lib.hid (fun w h=>ct_Ack P.n (Pl.subS dl sd) dl s.n w h (Nat.lt_of_le_of_lt ho.nn (by omega)))
 have p10:=mx_p (W:=W) (B:=B) (P:=P) (x:=⟨now,sd,si,sr,rt,true,true,dl,ac,lo,fl⟩) (i:=10) (v:=.pointer (some ⟨P.a,0,none⟩)) (fun _=>rfl)
 have p11:=mx_p (W:=W) (B:=B) (P:=P) (x:=⟨now,sd,si,sr,rt,true,true,dl,ac,lo,fl⟩) (i:=11) (v:=.pointer (some ⟨P.y,0,none⟩)) (fun _=>rfl)
 have p12:=mx_p (W:=W) (B:=B) (P:=P) (x:=⟨now,sd,si,sr,rt,true,true,dl,ac,lo,fl⟩) (i:=12) (v:=.pointer (some ⟨P.n,0,none⟩)) (fun _=>rfl)
 have v0:=mx_ev (W:=W) (B:=B) (P:=P) (x:=⟨now,sd,si,sr,rt,true,true,dl,ac,lo,fl⟩) (i:=0) (v:=.int .u64 (now:Int)) rfl
 have v7:=mx_ev (W:=W) (B:=B) (P:=P) (x:=⟨now,sd,si,sr,rt,true,true,dl,ac,lo,fl⟩) (i:=7) (v:=.int .u64 (dl:Int)) rfl
 have q0:=mx_s (W:=W) (B:=B) (P:=P) (x:=⟨now,sd,si,sr,rt,true,true,dl,ac,lo,fl⟩) (i:=0) (v:=.int .u64 (sd:Int)) rfl
 have q2:=mx_s (W:=W) (B:=B) (P:=P) (x:=⟨now,sd,si,sr,rt,true,true,dl,ac,lo,fl⟩) (i:=2) (v:=.int .u64 (sr:Int)) rfl
 have q3:=mx_s (W:=W) (B:=B) (P:=P) (x:=⟨now,sd,si,sr,rt,true,true,dl,ac,lo,fl⟩) (i:=3) (v:=.int .u64 (rt:Int)) rfl
 have q4:=mx_s (W:=W) (B:=B) (P:=P) (x:=⟨now,sd,si,sr,rt,true,true,dl,ac,lo,fl⟩) (i:=4) (v:=.bool true) rfl
 clear h ho hx hf hk
 unfold EvS.val
 generalize hX:(EvS.mk now sd si sr rt true true dl ac lo fl)=X at *
 have HE:Hid (X.cells=#[.int .u64 (now:Int),.int .u64 (sd:Int),.int .u64 (si:Int),.int .u64 (sr:Int),.int .u64 (rt:Int),.bool true,.bool true,.int .u64 (dl:Int),.int .u64 (ac:Int),.int .u64 (lo:Int),.int .u64 (fl:Int)]):=Lib.hid (by rw [← hX];rfl)
 have HSm:Hid (X.smp=#[.int .u64 (sd:Int),.int .u64 (si:Int),.int .u64 (sr:Int),.int .u64 (rt:Int),.bool true]):=Lib.hid (by rw [← hX];rfl)
 clear hX
 rw [HE.out] at M0 M1 HP HF ⊢
 rw [HSm.out] at M0 M1 HP HF
 go_enter Tryz.func173,Tryz.ntmps173
 go_wp2_with fail
 generalize ((W.alloc (.cells #[.int .u64 (now:Int),.int .u64 (sd:Int),.int .u64 (si:Int),.int .u64 (sr:Int),.int .u64 (rt:Int),.bool true,.bool true,.int .u64 (dl:Int),.int .u64 (ac:Int),.int .u64 (lo:Int),.int .u64 (fl:Int)] 110)).alloc (.cells #[.int .u64 (sd:Int),.int .u64 (si:Int),.int .u64 (sr:Int),.int .u64 (rt:Int),.bool true] 108))=w0 at *
 have X1:=mx_of M1
 go_region_held3 (fun w'=>Hid (MeaX W B P X w'))
  (first | with_reducible exact X1 | with_reducible exact X2)
  (first
   | (go_at_call 234;(with_reducible refine HP.out.mono ?_);rintro e w1 hp;obtain rfl:=hp.e;have M2:=Lib.hid (M1.out.cat (MutN.fl M1.out.m.at_ hg HF.out hp));have X2:=mx_of M2;clear hp))
 clear HP HF M0 M1 X1
 go_wp2_with fail
 have M3:=Lib.hid M2.out.drew
 clear X2
 have X3:=mx_of M3
 have i11:=mi_p (W:=W) (B:=B) (P:=P) (s:={s with f:=s.f.put now rt}) (x:=X) (i:=11) (v:=.pointer (some ⟨P.y,0,none⟩)) rfl
 have i2:=fun w (q:Hid (MeaI W B P {s with f:=s.f.put now rt} X w))=>q2 w (mx_of q)
 have i4:=fun w (q:Hid (MeaI W B P {s with f:=s.f.put now rt} X w))=>q4 w (mx_of q)
 go_region_held3 (fun w'=>Hid (MeaI W B P {s with f:=s.f.put now rt} X w'))
  (first | with_reducible exact mi_k (by assumption) hb | with_reducible exact M3)
  (first
   | (go_at_call 162;(with_reducible refine (HB.out _ M3.out.m.at_.y).mono ?_);rintro e w2 ⟨rfl,hb⟩))
 have M4:Hid (MeaI W B P {s with f:=s.f.put now rt} X w2):=Lib.hid (M3.out.to hb)
 clear i11 i2 i4 X3 hb
 clear M2 M3 HB
 go_wp2_with fail
 have M7:=Lib.hid M4.out.drew
 have X7:=mx_of M7
 go_region_held3 (fun w'=>Hid (MeaX W B P X w'))
  (first | with_reducible exact X7 | with_reducible exact mx_k X7 (al_be _ _) | with_reducible assumption | with_reducible exact mx_k (by assumption) (al_be _ _) | with_reducible exact mx_k (by assumption) (al_dr _ _) | with_reducible exact X8 | with_reducible exact mx_of (Lib.hid (M4.out.to (al_dr _ _))))
  (first
   | (go_at_call 114;(refine (HS.out _ _ (by first | exact cell_dr (nc1g _ _ _ _ (by simp)) | exact nc1g _ _ _ _ (by simp))).mono ?_);rintro e w4 ⟨rfl,rfl⟩)
   | (go_at_call 236;(refine (HA.out _ (by first | exact (M4.out.to (al_dr _ _)).m.at_.n | exact (M7.out.to (al_be _ _)).m.at_.n)).mono ?_);rintro e w5 hp;obtain rfl:=hp.e;have M8:Hid (MeaI W B P {s with f:=s.f.put now rt,y:=s.y,n:=s.n.ackS (Pl.subS dl sd) dl} X w5):=(by first | exact Lib.hid ((M4.out.to (al_dr _ _)).cat (MutN.ct (M4.out.to (al_dr _ _)).m.at_ hp.blk hp.gr)) | exact Lib.hid ((M7.out.to (al_be _ _)).cat (MutN.ct (M7.out.to (al_be _ _)).m.at_ hp.blk hp.gr)));have X8:=mx_of M8;clear hp))
 go_wp2_with fail
 go_ret
 exact ⟨rfl,M8.out.m.at_,M8.out.m.bel,M8.out.m.kt⟩
theorem en_measure {B k:Nat} {P:EP} {s:ES} (x:EvS) (hx:x.ok) (W:World) (h:EngAt W B P s) (ho:s.ok k) (hk:k≤900):
  Calls Tryz.prog 173 #[.pointer (some ⟨P.b,0,none⟩),x.val] W (EPost B P (.returned (.bool (s.over x))) (s.mea x) W):=by
 obtain ⟨now,sd,si,sr,rt,sl,sm,dl,ac,lo,fl⟩:=x
 cases sm with
 | false=>
   have:=en_measure_n hx W h ho
   simpa [ES.over,ES.mea] using this
 | true=>
   cases sl with
   | false=>
     have:=en_measure_f hx W h ho hk
     simpa [ES.over,ES.mea,ES.rput] using this
   | true=>
     by_cases hb:s.y.best≤sr
     ·have:=en_measure_y hx W h ho hk hb
      simpa [ES.over,ES.mea,ES.rput,hb] using this
     ·have:=en_measure_x hx W h ho hk hb
      simpa [ES.over,ES.mea,ES.rput,hb] using this
end Go.Proofs.YteoepabmnbkabaaGreatDoor
