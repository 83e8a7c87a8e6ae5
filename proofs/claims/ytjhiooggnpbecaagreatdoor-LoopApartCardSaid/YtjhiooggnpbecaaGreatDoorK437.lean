/- Lemmas. -/
import Derived.Test.YtjhiooggnpbecaaGreatDoorK418
set_option linter.unusedVariables false
set_option maxHeartbeats 1000000
set_option maxRecDepth 100000
namespace Go.Proofs.YtjhiooggnpbecaaGreatDoor
open Tryz
open Go.RowKit Cf
variable {P:EP} {s:ES} {B:Own} {W:World}
theorem SC {w w':World} (h:Hid (bY W B P s w)) (k:Below ↑w w w'):Hid (bY W B P s w'):=h.out.to k
theorem SF {i:Nat} {v:Value} (hv:(dY P s)[i]? =some v):∀w,Hid (bY W B P s w)→w.cell? ⟨P.b,i,none⟩=some v:=fun w q=>q.out.at_.e.cell hv
theorem xP (bs:BS) (x b:Nat) (W:World) (h:W.cell? ⟨b,0,none⟩=some ↑x):
  Calls prog 238 #[.agg bs.cells,.slice (some ⟨b,0,none⟩) 1 1] W fun e w'=>e=.returned ↑(bs.cap [x]:Nat)∧Below ↑W W w':=
 NO bs (some ⟨b,0,none⟩) 1 [x] W (by simp) (fun _=>⟨b,0,rfl,World.block_lt_of_cell? W _ h,PM h⟩)
theorem QT (W:World) (b x:Nat) (T:TypeId) (hb:b=W.heap.size):(W.alloc (.cells #[↑x] T)).cell? ⟨b,0,none⟩=some ↑x:=by subst hb;exact aN rfl rfl
theorem nZ (W:World) (b x y:Nat) (T:TypeId) (hb:b=W.heap.size):(W.alloc (.cells #[↑x,↑y] T)).cell? ⟨b,0,none⟩=some ↑x∧(W.alloc (.cells #[↑x,↑y] T)).cell? ⟨b,1,none⟩=some ↑y:=by subst hb;exact ⟨aN rfl rfl,aN rfl rfl⟩
theorem eT:(∀{B:Own} {k:Nat} {P:EP} {s:ES} (ac:Nat) (hac:ac≤↑ω) (W:World) (h:aG W B P s) (ho:s.ok k) (hs:s.st=0) (hf:s.p.full=false)
  {a wi q ad le rm c2 z:Nat} (ha:a=Pl.addS s.cwnd ac) (hwi:wi=dS (stG s.st) s.uses) (hq:q=s.quant) (had:ad=Pl.addS wi q) (hle:le=cS s.c) (hrm:rm=s.bs.room) (hc2:c2=s.bs.cap [a]) (hz:z=min (max (c2) le) 72057594037927936),Calls prog 178 #[↑(π P.b),↑ac] W fun e w'=>e=.returned ↑z∧Below ↑W W w')∧(∀{B:Own} {k:Nat} {P:EP} {s:ES} (ac:Nat) (hac:ac≤↑ω) (W:World) (h:aG W B P s) (ho:s.ok k) (hs:s.st=0) (hf:s.p.full=true)
  {a wi q ad le rm c2 z:Nat} (ha:a=Pl.addS s.cwnd ac) (hwi:wi=dS (stG s.st) s.uses) (hq:q=s.quant) (had:ad=Pl.addS wi q) (hle:le=cS s.c) (hrm:rm=s.bs.room) (hc2:c2=s.bs.cap [min a ad]) (hz:z=min (max (c2) le) 72057594037927936),Calls prog 178 #[↑(π P.b),↑ac] W fun e w'=>e=.returned ↑z∧Below ↑W W w')∧(∀{B:Own} {k:Nat} {P:EP} {s:ES} (ac:Nat) (hac:ac≤↑ω) (W:World) (h:aG W B P s) (ho:s.ok k) (hs:s.st=2)
  {a wi q ad le rm c2 z:Nat} (ha:a=Pl.addS s.cwnd ac) (hwi:wi=dS (stG s.st) s.uses) (hq:q=s.quant) (had:ad=Pl.addS wi q) (hle:le=cS s.c) (hrm:rm=s.bs.room) (hc2:c2=s.bs.cap [min a ad]) (hz:z=min (max (min c2 rm) le) 72057594037927936),Calls prog 178 #[↑(π P.b),↑ac] W fun e w'=>e=.returned ↑z∧Below ↑W W w')∧(∀{B:Own} {k:Nat} {P:EP} {s:ES} (ac:Nat) (hac:ac≤↑ω) (W:World) (h:aG W B P s) (ho:s.ok k) (hs:s.st=3)
  {a wi q ad le rm c2 z:Nat} (ha:a=Pl.addS s.cwnd ac) (hwi:wi=dS (stG s.st) s.uses) (hq:q=s.quant) (had:ad=Pl.addS wi q) (hle:le=cS s.c) (hrm:rm=s.bs.room) (hc2:c2=s.bs.cap [min a ad]) (hz:z=min (max (min c2 rm) le) 72057594037927936),Calls prog 178 #[↑(π P.b),↑ac] W fun e w'=>e=.returned ↑z∧Below ↑W W w')∧(∀{B:Own} {k:Nat} {P:EP} {s:ES} (ac:Nat) (hac:ac≤↑ω) (W:World) (h:aG W B P s) (ho:s.ok k) (hs:s.st=6)
  {a wi q ad le rm c2 z:Nat} (ha:a=Pl.addS s.cwnd ac) (hwi:wi=dS (stG s.st) s.uses) (hq:q=s.quant) (had:ad=Pl.addS wi q) (hle:le=cS s.c) (hrm:rm=s.bs.room) (hc2:c2=s.bs.cap [min a ad]) (hz:z=min (max (min c2 wi) le) 72057594037927936),Calls prog 178 #[↑(π P.b),↑ac] W fun e w'=>e=.returned ↑z∧Below ↑W W w')∧(∀{B:Own} {k:Nat} {P:EP} {s:ES} (ac:Nat) (hac:ac≤↑ω) (W:World) (h:aG W B P s) (ho:s.ok k) (h0:s.st≠0) (h2:s.st≠2) (h3:s.st≠3) (h6:s.st≠6)
  {a wi q ad le rm c2 z:Nat} (ha:a=Pl.addS s.cwnd ac) (hwi:wi=dS (stG s.st) s.uses) (hq:q=s.quant) (had:ad=Pl.addS wi q) (hle:le=cS s.c) (hrm:rm=s.bs.room) (hc2:c2=s.bs.cap [min a ad]) (hz:z=min (max (c2) le) 72057594037927936),Calls prog 178 #[↑(π P.b),↑ac] W fun e w'=>e=.returned ↑z∧Below ↑W W w'):=by
 refine ⟨?_,?_,?_,?_,?_,?_⟩
 have k0v:Hid True:=trivial;intro B k P s ac hac W h ho hs hf a wi q ad le rm c2 z ha hwi hq had hle hrm hc2 hz;rotate_left;have k1v:Hid True:=trivial;intro B k P s ac hac W h ho hs hf a wi q ad le rm c2 z ha hwi hq had hle hrm hc2 hz;rotate_left;have k2v:Hid True:=trivial;intro B k P s ac hac W h ho hs a wi q ad le rm c2 z ha hwi hq had hle hrm hc2 hz;rotate_left;have k3v:Hid True:=trivial;intro B k P s ac hac W h ho hs a wi q ad le rm c2 z ha hwi hq had hle hrm hc2 hz;rotate_left;have k4v:Hid True:=trivial;intro B k P s ac hac W h ho hs a wi q ad le rm c2 z ha hwi hq had hle hrm hc2 hz;rotate_left;have k5v:Hid True:=trivial;intro B k P s ac hac W h ho h0 h2 h3 h6 a wi q ad le rm c2 z ha hwi hq had hle hrm hc2 hz;rotate_left
 all_goals
  have HA:=lh (bU s.cwnd ac ho.cwnd hac);have HU:=lh (fun w h=>KA (B:=B) (P:=P) (s:=s) w h ho);have HW:=lh (fun w h=>yP s.st s.uses (ES.uses_le s) w h);have HF:Hid (∀w,aG w B P s→Calls prog 221 #[↑(π P.p)] w fun e w'=>e=.returned (.bool s.p.full)∧Below ↑w w w'):=lh (fun w hw=>(pV P.p s.p w hw.p).mono fun e w' q=>⟨q.1,q.2▸Below.refl _ _⟩);have HQ:=lh (fun w h=>m9 (B:=B) (P:=P) (s:=s) w h ho);have HD:=lh (bU wi q (by rw [hwi];exact uZ _ _) (by rw [hq];exact ES.quant_le s));first
  |revert k0v;intro k0v;have HC:=lh (fun b w h=>xP s.bs (a) b w h)
  |have HC:=lh (fun b w h=>xP s.bs (min a ad) b w h)
  have HR:=lh (fun w=>wK s.bs w ho.bs);have HL:=lh (fun w=>fJ.2 s.c w ho.c);have hm1:min (a:Int) (ad:Int)=((min a ad:Nat):Int):=by omega
  have hm2:min (c2:Int) (rm:Int)=((min c2 rm:Nat):Int):=by omega
  have hm3:min (c2:Int) (wi:Int)=((min c2 wi:Nat):Int):=by omega
  first
  |revert k2v;intro k2v;have hm4:max (((min c2 rm):Nat):Int) (le:Int)=((max (min c2 rm) le:Nat):Int):=by omega
   have hm5:min ((max (min c2 rm) le:Nat):Int) 72057594037927936=(z:Int):=by omega
   have z0:(s.st == 0)=false:=beq_eq_false_iff_ne.2 (by omega);have z2:(s.st == 2)=true:=beq_iff_eq.2 hs;have z3:(s.st == 3)=false:=beq_eq_false_iff_ne.2 (by omega);have z6:(s.st == 6)=false:=beq_eq_false_iff_ne.2 (by omega);have zn:(s.st != 0)=true:=by simp [bne,z0]
  |revert k3v;intro k3v;have hm4:max (((min c2 rm):Nat):Int) (le:Int)=((max (min c2 rm) le:Nat):Int):=by omega
   have hm5:min ((max (min c2 rm) le:Nat):Int) 72057594037927936=(z:Int):=by omega
   have z0:(s.st == 0)=false:=beq_eq_false_iff_ne.2 (by omega);have z2:(s.st == 2)=false:=beq_eq_false_iff_ne.2 (by omega);have z3:(s.st == 3)=true:=beq_iff_eq.2 hs;have z6:(s.st == 6)=false:=beq_eq_false_iff_ne.2 (by omega);have zn:(s.st != 0)=true:=by simp [bne,z0]
  |revert k4v;intro k4v;have hm4:max (((min c2 wi):Nat):Int) (le:Int)=((max (min c2 wi) le:Nat):Int):=by omega
   have hm5:min ((max (min c2 wi) le:Nat):Int) 72057594037927936=(z:Int):=by omega
   have z0:(s.st == 0)=false:=beq_eq_false_iff_ne.2 (by omega);have z2:(s.st == 2)=false:=beq_eq_false_iff_ne.2 (by omega);have z3:(s.st == 3)=false:=beq_eq_false_iff_ne.2 (by omega);have z6:(s.st == 6)=true:=beq_iff_eq.2 hs;have zn:(s.st != 0)=true:=by simp [bne,z0]
  |revert k5v;intro k5v;have hm4:max (((c2):Nat):Int) (le:Int)=((max (c2) le:Nat):Int):=by omega
   have hm5:min ((max (c2) le:Nat):Int) 72057594037927936=(z:Int):=by omega
   have z0:(s.st == 0)=false:=beq_eq_false_iff_ne.2 (h0);have z2:(s.st == 2)=false:=beq_eq_false_iff_ne.2 (h2);have z3:(s.st == 3)=false:=beq_eq_false_iff_ne.2 (h3);have z6:(s.st == 6)=false:=beq_eq_false_iff_ne.2 (h6);have zn:(s.st != 0)=true:=by simp [bne,z0]
  |have hm4:max (((c2):Nat):Int) (le:Int)=((max (c2) le:Nat):Int):=by omega
   have hm5:min ((max (c2) le:Nat):Int) 72057594037927936=(z:Int):=by omega
   have z0:(s.st == 0)=true:=beq_iff_eq.2 hs;have z2:(s.st == 2)=false:=beq_eq_false_iff_ne.2 (by omega);have z3:(s.st == 3)=false:=beq_eq_false_iff_ne.2 (by omega);have z6:(s.st == 6)=false:=beq_eq_false_iff_ne.2 (by omega);have zn:(s.st != 0)=false:=by simp [bne,z0]
   rw [hf] at HF
  have I0:=lh (bY.start h);have c18:=h.e.cell (i:=18) (v:=↑s.cwnd) rfl;rw [← ha] at HA;rw [← hwi] at HW;rw [← hq] at HQ;rw [← had] at HD;rw [← hc2] at HC;rw [← hrm] at HR;rw [← hle] at HL;first
  |revert k5v;intro k5v;clear h ho hac ha hwi hq had hle hrm hc2 hz h0 h2 h3 h6
  |(first|(revert k0v;intro k0v)|(revert k1v;intro k1v));clear h ho hac ha hwi hq had hle hrm hc2 hz hs hf
  |clear h ho hac ha hwi hq had hle hrm hc2 hz hs
  generalize s.uses=us at *;first
  |revert k0v;intro k0v;generalize min (max (c2) le) 72057594037927936=zz at *;generalize hoo:(a)=o1 at *;generalize hvv:(c2)=v3 at *
  |revert k4v;intro k4v;generalize min (max (min c2 wi) le) 72057594037927936=zz at *;generalize hoo:(min a ad)=o1 at *;generalize hvv:(min c2 wi)=v3 at *
  |(first|(revert k1v;intro k1v)|(revert k5v;intro k5v));generalize min (max (c2) le) 72057594037927936=zz at *;generalize hoo:(min a ad)=o1 at *;generalize hvv:(c2)=v3 at *
  |generalize min (max (min c2 rm) le) 72057594037927936=zz at *;generalize hoo:(min a ad)=o1 at *;generalize hvv:(min c2 rm)=v3 at *
  generalize max v3 le=mx at *;simp only [BS.cells] at HC HR;simp only [aL] at HL;go_enter func178,ntmps178;go_wp2_with fail;refine (HA.out _ _ (by exact (nZ _ _ _ _ _ (by simp)).1) (by exact (nZ _ _ _ _ _ (by simp)).2)).mono ?_;rintro e w1 ⟨rfl,hb⟩;have I1:=lh ((I0.out.to (aC _ _)).to hb);clear hb c18 I0 HA;go_wp2_with fail;have I2:=lh I1.out.drew;have r13:=SF (W:=W) (B:=B) (P:=P) (s:=s) (i:=13) (v:=.int .i64 s.st) rfl;go_region_held3 (fun w'=>Hid (bY W B P s w'))
   (first | with_reducible exact SC (by assumption) hb | with_reducible exact I2)
   (first
    | (go_at_call 237;(with_reducible refine (HU.out _ (Hid.out (by assumption):bY W B P s _).at_).mono ?_);rintro e w' ⟨rfl,hb⟩)
    | (go_at_call 236;(with_reducible refine (HW.out _ (Hid.out (by assumption):bY W B P s _).at_.gl).mono ?_);rintro e w' ⟨rfl,hb⟩))
  have I3:Hid (bY W B P s w'):=by assumption
  clear r13 hb I1 I2;have c13:=I3.out.at_.e.cell (i:=13) (v:=.int .i64 s.st) rfl;have c6:=I3.out.at_.e.cell (i:=6) (v:=↑(π P.p)) rfl;have c7:=I3.out.at_.e.cell (i:=7) (v:=↑s.bs.hi) rfl;have c8:=I3.out.at_.e.cell (i:=8) (v:=↑s.bs.lo) rfl;have c9:=I3.out.at_.e.cell (i:=9) (v:=↑s.bs.bw) rfl;go_wp2_with fail;first
  |(first|(revert k0v;intro k0v)|(revert k1v;intro k1v));refine (HF.out _ I3.out.at_).mono ?_
  |refine (HQ.out _ I3.out.at_).mono ?_
  rintro e w13 ⟨rfl,hb⟩;have I4:=lh (I3.out.to hb);clear hb;first
  |revert k2v;intro k2v;go_wp2_with fail;refine (HD.out _ _ (by exact (nZ _ _ _ _ _ (by simp)).1) (by exact (nZ _ _ _ _ _ (by simp)).2)).mono ?_;rintro e w14 ⟨rfl,hb⟩;have I5:=lh ((I4.out.to (aC _ _)).to hb);clear hb;have c7:=I5.out.at_.e.cell (i:=7) (v:=↑s.bs.hi) rfl;have c8:=I5.out.at_.e.cell (i:=8) (v:=↑s.bs.lo) rfl;have c9:=I5.out.at_.e.cell (i:=9) (v:=↑s.bs.bw) rfl;have c13:=I5.out.at_.e.cell (i:=13) (v:=.int .i64 s.st) rfl
  |(first|(revert k0v;intro k0v)|(revert k1v;intro k1v));have c7:=I4.out.at_.e.cell (i:=7) (v:=↑s.bs.hi) rfl;have c8:=I4.out.at_.e.cell (i:=8) (v:=↑s.bs.lo) rfl;have c9:=I4.out.at_.e.cell (i:=9) (v:=↑s.bs.bw) rfl;have c13:=I4.out.at_.e.cell (i:=13) (v:=.int .i64 s.st) rfl
  |skip
  go_wp2_with fail;first
  |revert k1v;intro k1v;refine (HQ.out _ I4.out.at_).mono ?_;rintro e w14 ⟨rfl,hb⟩;have I5:=lh (I4.out.to hb);clear hb;go_wp2_with fail;refine (HD.out _ _ (by exact (nZ _ _ _ _ _ (by simp)).1) (by exact (nZ _ _ _ _ _ (by simp)).2)).mono ?_;rintro e w15 ⟨rfl,hb⟩;have I6:=lh ((I5.out.to (aC _ _)).to hb);clear hb;have c7:=I6.out.at_.e.cell (i:=7) (v:=↑s.bs.hi) rfl;have c8:=I6.out.at_.e.cell (i:=8) (v:=↑s.bs.lo) rfl;have c9:=I6.out.at_.e.cell (i:=9) (v:=↑s.bs.bw) rfl;have c13:=I6.out.at_.e.cell (i:=13) (v:=.int .i64 s.st) rfl;go_wp2_with fail
  |(first|(revert k0v;intro k0v)|(revert k2v;intro k2v))
  |refine (HD.out _ _ (by exact (nZ _ _ _ _ _ (by simp)).1) (by exact (nZ _ _ _ _ _ (by simp)).2)).mono ?_;rintro e w14 ⟨rfl,hb⟩;have I5:=lh ((I4.out.to (aC _ _)).to hb);clear hb;have c7:=I5.out.at_.e.cell (i:=7) (v:=↑s.bs.hi) rfl;have c8:=I5.out.at_.e.cell (i:=8) (v:=↑s.bs.lo) rfl;have c9:=I5.out.at_.e.cell (i:=9) (v:=↑s.bs.bw) rfl;have c13:=I5.out.at_.e.cell (i:=13) (v:=.int .i64 s.st) rfl;go_wp2_with fail
  refine (HC.out _ _ (by first | exact QT _ _ _ _ (by simp) | (rw [hoo];exact QT _ _ _ _ (by simp)))).mono ?_;first
  |revert k0v;intro k0v;rintro e w14 ⟨rfl,hb⟩;have I5:=lh ((I4.out.to (aC _ _)).to hb);clear hb;have c7:=I5.out.at_.e.cell (i:=7) (v:=↑s.bs.hi) rfl;have c8:=I5.out.at_.e.cell (i:=8) (v:=↑s.bs.lo) rfl;have c9:=I5.out.at_.e.cell (i:=9) (v:=↑s.bs.bw) rfl;have c13:=I5.out.at_.e.cell (i:=13) (v:=.int .i64 s.st) rfl;have c0:=I5.out.at_.e.cell (i:=0) (v:=↑(s.c 0)) rfl;have c1:=I5.out.at_.e.cell (i:=1) (v:=↑(s.c 1)) rfl;have c2:=I5.out.at_.e.cell (i:=2) (v:=↑(s.c 2)) rfl;have c3:=I5.out.at_.e.cell (i:=3) (v:=↑(s.c 3)) rfl;have c4:=I5.out.at_.e.cell (i:=4) (v:=↑(s.c 4)) rfl;have c5:=I5.out.at_.e.cell (i:=5) (v:=↑(s.c 5)) rfl
  |revert k1v;intro k1v;rintro e w16 ⟨rfl,hb⟩;have I7:=lh ((I6.out.to (aC _ _)).to hb);clear hb;have c7:=I7.out.at_.e.cell (i:=7) (v:=↑s.bs.hi) rfl;have c8:=I7.out.at_.e.cell (i:=8) (v:=↑s.bs.lo) rfl;have c9:=I7.out.at_.e.cell (i:=9) (v:=↑s.bs.bw) rfl;have c13:=I7.out.at_.e.cell (i:=13) (v:=.int .i64 s.st) rfl;have c0:=I7.out.at_.e.cell (i:=0) (v:=↑(s.c 0)) rfl;have c1:=I7.out.at_.e.cell (i:=1) (v:=↑(s.c 1)) rfl;have c2:=I7.out.at_.e.cell (i:=2) (v:=↑(s.c 2)) rfl;have c3:=I7.out.at_.e.cell (i:=3) (v:=↑(s.c 3)) rfl;have c4:=I7.out.at_.e.cell (i:=4) (v:=↑(s.c 4)) rfl;have c5:=I7.out.at_.e.cell (i:=5) (v:=↑(s.c 5)) rfl
  |(first|(revert k2v;intro k2v)|(revert k3v;intro k3v));rintro e w15 ⟨rfl,hb⟩;have I6:=lh ((I5.out.to (aC _ _)).to hb);clear hb;have c7:=I6.out.at_.e.cell (i:=7) (v:=↑s.bs.hi) rfl;have c8:=I6.out.at_.e.cell (i:=8) (v:=↑s.bs.lo) rfl;have c9:=I6.out.at_.e.cell (i:=9) (v:=↑s.bs.bw) rfl;have c13:=I6.out.at_.e.cell (i:=13) (v:=.int .i64 s.st) rfl;have c0:=I6.out.at_.e.cell (i:=0) (v:=↑(s.c 0)) rfl;have c1:=I6.out.at_.e.cell (i:=1) (v:=↑(s.c 1)) rfl;have c2:=I6.out.at_.e.cell (i:=2) (v:=↑(s.c 2)) rfl;have c3:=I6.out.at_.e.cell (i:=3) (v:=↑(s.c 3)) rfl;have c4:=I6.out.at_.e.cell (i:=4) (v:=↑(s.c 4)) rfl;have c5:=I6.out.at_.e.cell (i:=5) (v:=↑(s.c 5)) rfl;go_wp2_with fail;refine (HR.out _).mono ?_;rintro e w16 ⟨rfl,hb⟩;have I7:=lh (I6.out.to hb);clear hb;have c0:=I7.out.at_.e.cell (i:=0) (v:=↑(s.c 0)) rfl;have c1:=I7.out.at_.e.cell (i:=1) (v:=↑(s.c 1)) rfl;have c2:=I7.out.at_.e.cell (i:=2) (v:=↑(s.c 2)) rfl;have c3:=I7.out.at_.e.cell (i:=3) (v:=↑(s.c 3)) rfl;have c4:=I7.out.at_.e.cell (i:=4) (v:=↑(s.c 4)) rfl;have c5:=I7.out.at_.e.cell (i:=5) (v:=↑(s.c 5)) rfl
  |rintro e w15 ⟨rfl,hb⟩;have I6:=lh ((I5.out.to (aC _ _)).to hb);clear hb;have c7:=I6.out.at_.e.cell (i:=7) (v:=↑s.bs.hi) rfl;have c8:=I6.out.at_.e.cell (i:=8) (v:=↑s.bs.lo) rfl;have c9:=I6.out.at_.e.cell (i:=9) (v:=↑s.bs.bw) rfl;have c13:=I6.out.at_.e.cell (i:=13) (v:=.int .i64 s.st) rfl;have c0:=I6.out.at_.e.cell (i:=0) (v:=↑(s.c 0)) rfl;have c1:=I6.out.at_.e.cell (i:=1) (v:=↑(s.c 1)) rfl;have c2:=I6.out.at_.e.cell (i:=2) (v:=↑(s.c 2)) rfl;have c3:=I6.out.at_.e.cell (i:=3) (v:=↑(s.c 3)) rfl;have c4:=I6.out.at_.e.cell (i:=4) (v:=↑(s.c 4)) rfl;have c5:=I6.out.at_.e.cell (i:=5) (v:=↑(s.c 5)) rfl
  go_wp2_with fail;refine (HL.out _).mono ?_;first
  |revert k0v;intro k0v;rintro e w15 ⟨rfl,hb⟩;have I6:=lh (I5.out.to hb)
  |(first|(revert k4v;intro k4v)|(revert k5v;intro k5v));rintro e w16 ⟨rfl,hb⟩;have I7:=lh (I6.out.to hb)
  |rintro e w17 ⟨rfl,hb⟩;have I8:=lh (I7.out.to hb)
  clear hb;go_wp2_with fail
  all_goals
   first
   |revert k0v;intro k0v;go_ret;refine ⟨bH ?_,I6.out.bel⟩
   |(first|(revert k4v;intro k4v)|(revert k5v;intro k5v));go_ret;refine ⟨bH ?_,I7.out.bel⟩
   |go_ret;refine ⟨bH ?_,I8.out.bel⟩
   first | rfl | exact hm5 | omega
theorem LA {k:Nat} (ac:Nat) (hac:ac≤↑ω) (W:World) (h:aG W B P s) (ho:s.ok k):
  Calls prog 178 #[↑(π P.b),↑ac] W fun e w'=>e=.returned ↑(s.open ac:Nat)∧Below ↑W W w':=by
 by_cases h0:s.st=0
 ·cases hf:s.p.full with
  | false=>exact eT.1 ac hac W h ho h0 hf rfl rfl rfl rfl rfl rfl rfl (by simp [ES.open,ES.o3,ES.o2,ES.o1,h0,hf])
  | true=>exact eT.2.1 ac hac W h ho h0 hf rfl rfl rfl rfl rfl rfl rfl (by simp [ES.open,ES.o3,ES.o2,ES.o1,h0,hf])
 ·by_cases h2:s.st=2
  ·exact eT.2.2.1 ac hac W h ho h2 rfl rfl rfl rfl rfl rfl rfl (by simp [ES.open,ES.o3,ES.o2,ES.o1,h2])
  ·by_cases h3:s.st=3
   ·exact eT.2.2.2.1 ac hac W h ho h3 rfl rfl rfl rfl rfl rfl rfl (by simp [ES.open,ES.o3,ES.o2,ES.o1,h3])
   ·by_cases h6:s.st=6
    ·exact eT.2.2.2.2.1 ac hac W h ho h6 rfl rfl rfl rfl rfl rfl rfl (by simp [ES.open,ES.o3,ES.o2,ES.o1,h6])
    ·exact eT.2.2.2.2.2 ac hac W h ho h0 h2 h3 h6 rfl rfl rfl rfl rfl rfl rfl (by simp [ES.open,ES.o3,ES.o2,ES.o1,h0,h2,h3,h6])
end Go.Proofs.YtjhiooggnpbecaaGreatDoor
