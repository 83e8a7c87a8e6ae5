/- Lemmas. -/
import Derived.Test.YtjhiooggnpbecaaGreatDoorK218
import Derived.Test.YtjhiooggnpbecaaGreatDoorK220
import Derived.Test.YtjhiooggnpbecaaGreatDoorK222
set_option linter.unusedVariables false
set_option maxHeartbeats 2000000
set_option maxRecDepth 100000
namespace Go.Proofs.YtjhiooggnpbecaaGreatDoor
open Tryz
variable {B ac dl fl i k lo now rt sd si sr:Nat} {v:Value} {W w w':World}
section
open Go.RowKit Cf
theorem rN {P:EP} {s:ES} (now:Nat) (t:Int) (W:World) (h:aG W B P s) (hn:t=s.st):
  Calls prog 174 #[↑(π P.b),↑now,.int .i64 t] W (aZ B P (.returned (.tuple #[])) s W):=by
 have z0:(t == s.st)=true:=beq_iff_eq.2 hn;have M0:=lh (aY.start h);have g13:=M0.out.at_.e.cell (i:=13) (v:=.int .i64 s.st) rfl;clear h hn;go_enter func174,ntmps174;go_wp2_with fail;exact bodyPost_ret (v:=.tuple #[]) (by simp [results,Tryz.results174,go_sem]) rfl M0.out.post
theorem fY:(∀{B k:Nat} {P:EP} {s:ES} (now:Nat) (t:Int) (W:World) (h:aG W B P s) (ho:s.ok k) (hn:t≠s.st) (h6:s.st≠6) (t6:t≠6) (t4:t≠4) (h5:¬ (s.st=5∧t=2)),Calls prog 174 #[↑(π P.b),↑now,.int .i64 t] W (aZ B P (.returned (.tuple #[])) {s with st:=t,began:=now,rounds:=0} W))∧(∀{B k:Nat} {P:EP} {s:ES} (now:Nat) (t:Int) (W:World) (h:aG W B P s) (ho:s.ok k) (hn:t≠s.st) (h6:s.st≠6) (t6:t=6),Calls prog 174 #[↑(π P.b),↑now,.int .i64 t] W (aZ B P (.returned (.tuple #[])) {{s with kept:=s.cwnd} with st:=t,began:=now,rounds:=0} W))∧(∀{B k:Nat} {P:EP} {s:ES} (now:Nat) (t:Int) (W:World) (h:aG W B P s) (ho:s.ok k) (hn:t≠s.st) (h6:s.st≠6) (t4:t=4),Calls prog 174 #[↑(π P.b),↑now,.int .i64 t] W (aZ B P (.returned (.tuple #[])) {{s with bs:=s.bs.short} with st:=t,began:=now,rounds:=0} W)):=by
 refine ⟨?_,?_,?_⟩
 have k0v:Hid True:=trivial;intro B k P s now t W h ho hn h6 t6 t4 h5;rotate_left;have k1v:Hid True:=trivial;intro B k P s now t W h ho hn h6 t6;rotate_left;have k2v:Hid True:=trivial;intro B k P s now t W h ho hn h6 t4;rotate_left
 all_goals
  have z0:(t == s.st)=false:=beq_eq_false_iff_ne.2 (hn);have z1:(s.st == 6)=false:=beq_eq_false_iff_ne.2 (h6);first
  |revert k1v;intro k1v;have z2:(t == 6)=true:=beq_iff_eq.2 t6
  |revert k2v;intro k2v;have z2:(t == 6)=false:=beq_eq_false_iff_ne.2 (by omega);have z3:(t == 4)=true:=beq_iff_eq.2 t4
  |have z2:(t == 6)=false:=beq_eq_false_iff_ne.2 (t6);have z3:(t == 4)=false:=beq_eq_false_iff_ne.2 (t4)
   have zz:(s.st == 5)=false∨((s.st == 5)=true∧(t == 2)=false):=by
    by_cases e5:s.st=5
    ·exact Or.inr ⟨beq_iff_eq.2 e5,beq_eq_false_iff_ne.2 (fun e2=>h5 ⟨e5,e2⟩)⟩
    ·exact Or.inl (beq_eq_false_iff_ne.2 e5)
  have M0:=lh (aY.start h);have g13:=M0.out.at_.e.cell (i:=13) (v:=.int .i64 s.st) rfl;first
  |revert k0v;intro k0v;have MF:=M0
  |revert k1v;intro k1v;have g18:=M0.out.at_.e.cell (i:=18) (v:=↑s.cwnd) rfl;have g19:=M0.out.at_.e.cell (i:=19) (v:=↑s.kept) rfl;have y19:=M0.out.at_.e.free 19;have MF:=lh (M0.out.set (s':={s with kept:=s.cwnd}) 19 ↑s.cwnd rfl rfl rfl rfl rfl);clear h ho hn h6 t6;go_enter func174,ntmps174
  |have g7:=M0.out.at_.e.cell (i:=7) (v:=↑s.bs.hi) rfl;have g8:=M0.out.at_.e.cell (i:=8) (v:=↑s.bs.lo) rfl;have g9:=M0.out.at_.e.cell (i:=9) (v:=↑s.bs.bw) rfl;have HS:=lh (fun w=>D5 s.bs w);simp only [BS.cells] at HS;clear h ho hn h6 t4;go_enter func174,ntmps174;go_wp2_with fail;refine (HS.out _).mono ?_;rintro e w1 ⟨rfl,hb⟩;have M1:=lh (M0.out.to hb);have r7:=M1.out.at_.e.cell (i:=7) (v:=↑s.bs.hi) rfl;have r8:=M1.out.at_.e.cell (i:=8) (v:=↑s.bs.lo) rfl;have r9:=M1.out.at_.e.cell (i:=9) (v:=↑s.bs.bw) rfl;have y7:=M1.out.at_.e.free 7;have y8:=M1.out.at_.e.free 8;have y9:=M1.out.at_.e.free 9;have MF:=lh (((M1.out.set (s':={s with bs:=⟨(s.bs.short).hi,s.bs.lo,s.bs.bw⟩}) 7 ↑((s.bs.short).hi) rfl rfl rfl rfl rfl).set (s':={s with bs:=⟨(s.bs.short).hi,(s.bs.short).lo,s.bs.bw⟩}) 8 ↑((s.bs.short).lo) rfl rfl rfl rfl rfl).set (s':={s with bs:=s.bs.short}) 9 ↑((s.bs.short).bw) rfl rfl rfl rfl rfl);clear hb
  have y13:=MF.out.at_.e.free 13;have y14:=MF.out.at_.e.free 14;have y15:=MF.out.at_.e.free 15;have d13:=MF.out.at_.e.cell (i:=13) (v:=.int .i64 s.st) rfl;have d14:=MF.out.at_.e.cell (i:=14) (v:=↑s.began) rfl;have d15:=MF.out.at_.e.cell (i:=15) (v:=↑s.rounds) rfl;first
  |revert k1v;intro k1v;have MZ:=lh (((MF.out.set (s':={{s with kept:=s.cwnd} with st:=t}) 13 (.int .i64 t) rfl rfl rfl rfl rfl).set (s':={{s with kept:=s.cwnd} with st:=t,began:=now}) 14 ↑now rfl rfl rfl rfl rfl).set (s':={{s with kept:=s.cwnd} with st:=t,began:=now,rounds:=0}) 15 ↑ζ rfl rfl rfl rfl rfl);go_wp2_with fail;go_end0;exact MZ.out.post
  |revert k2v;intro k2v;have MZ:=lh (((MF.out.set (s':={{s with bs:=s.bs.short} with st:=t}) 13 (.int .i64 t) rfl rfl rfl rfl rfl).set (s':={{s with bs:=s.bs.short} with st:=t,began:=now}) 14 ↑now rfl rfl rfl rfl rfl).set (s':={{s with bs:=s.bs.short} with st:=t,began:=now,rounds:=0}) 15 ↑ζ rfl rfl rfl rfl rfl);go_wp2_with fail;go_end0;exact MZ.out.post
  |have MZ:=lh (((MF.out.set (s':={s with st:=t}) 13 (.int .i64 t) rfl rfl rfl rfl rfl).set (s':={s with st:=t,began:=now}) 14 ↑now rfl rfl rfl rfl rfl).set (s':={s with st:=t,began:=now,rounds:=0}) 15 ↑ζ rfl rfl rfl rfl rfl);clear h ho hn h6 t6 t4 h5;rcases zz with z4 | ⟨z4,z5⟩
   all_goals
    go_enter func174,ntmps174;go_wp2_with fail;go_end0;exact MZ.out.post
theorem rO {P:EP} {s:ES} (now:Nat) (t:Int) (W:World) (h:aG W B P s) (ho:s.ok k) (h5:s.st=5) (t2:t=2):
  Calls prog 174 #[↑(π P.b),↑now,.int .i64 t] W (aZ B P (.returned (.tuple #[])) {{s with y:=s.y.next} with st:=t,began:=now,rounds:=0} W):=by
 have z0:(t == s.st)=false:=beq_eq_false_iff_ne.2 (by omega);have z1:(s.st == 6)=false:=beq_eq_false_iff_ne.2 (by omega);have z2:(t == 6)=false:=beq_eq_false_iff_ne.2 (by omega);have z3:(t == 4)=false:=beq_eq_false_iff_ne.2 (by omega);have z4:(s.st == 5)=true:=beq_iff_eq.2 h5;have z5:(t == 2)=true:=beq_iff_eq.2 t2;have M0:=lh (aY.start h);have g13:=M0.out.at_.e.cell (i:=13) (v:=.int .i64 s.st) rfl;have g11:=M0.out.at_.e.cell (i:=11) (v:=↑(π P.y)) rfl;have HN:=lh (LA P.y s.y W h.y);clear ho h5 t2;go_enter func174,ntmps174;go_wp2_with fail;refine (HN.out).mono ?_;rintro e w1 ⟨rfl,hy,hg⟩;have MF:=lh (aY.cy h hy hg);clear h hy hg;have y13:=MF.out.at_.e.free 13;have y14:=MF.out.at_.e.free 14;have y15:=MF.out.at_.e.free 15;have d13:=MF.out.at_.e.cell (i:=13) (v:=.int .i64 s.st) rfl;have d14:=MF.out.at_.e.cell (i:=14) (v:=↑s.began) rfl;have d15:=MF.out.at_.e.cell (i:=15) (v:=↑s.rounds) rfl;have MZ:=lh (((MF.out.set (s':={{s with y:=s.y.next} with st:=t}) 13 (.int .i64 t) rfl rfl rfl rfl rfl).set (s':={{s with y:=s.y.next} with st:=t,began:=now}) 14 ↑now rfl rfl rfl rfl rfl).set (s':={{s with y:=s.y.next} with st:=t,began:=now,rounds:=0}) 15 ↑ζ rfl rfl rfl rfl rfl);go_wp2_with fail;go_end0
 exact MZ.out.post
theorem oX {P:EP} {s:ES} (now:Nat) (t:Int) (W:World) (h:aG W B P s) (ho:s.ok k) (hn:t≠s.st) (h6:s.st=6):
  Calls prog 174 #[↑(π P.b),↑now,.int .i64 t] W (aZ B P (.returned (.tuple #[])) {{s with ended:=now,cwnd:=max s.cwnd s.kept} with st:=t,began:=now,rounds:=0} W):=by
 have z0:(t == s.st)=false:=beq_eq_false_iff_ne.2 (hn);have z1:(s.st == 6)=true:=beq_iff_eq.2 h6;have M0:=lh (aY.start h);have g13:=M0.out.at_.e.cell (i:=13) (v:=.int .i64 s.st) rfl;have g20:=M0.out.at_.e.cell (i:=20) (v:=↑s.ended) rfl;have y20:=M0.out.at_.e.free 20;have hm:max (s.cwnd:Int) (s.kept:Int)=((max s.cwnd s.kept:Nat):Int):=by omega
 have M1:=lh (M0.out.set (s':={s with ended:=now}) 20 ↑now rfl rfl rfl rfl rfl);have MF:=lh (M1.out.set (s':={s with ended:=now,cwnd:=max s.cwnd s.kept}) 18 ↑(max s.cwnd s.kept:Nat) rfl rfl rfl rfl rfl).drew;have g18:=M1.out.at_.e.cell (i:=18) (v:=↑s.cwnd) rfl;have g19:=M1.out.at_.e.cell (i:=19) (v:=↑s.kept) rfl;have y18:=M1.out.at_.e.free 18;clear h ho hn h6;go_enter func174,ntmps174;go_wp2_with fail;generalize W.setCell ⟨P.b,20,none⟩ ↑now=w1 at *;go_region
 have y13:=M1.out.at_.e.free 13;have y14:=M1.out.at_.e.free 14;have y15:=M1.out.at_.e.free 15;have d13:=M1.out.at_.e.cell (i:=13) (v:=.int .i64 s.st) rfl;have d14:=M1.out.at_.e.cell (i:=14) (v:=↑s.began) rfl;have d15:=M1.out.at_.e.cell (i:=15) (v:=↑s.rounds) rfl;have MZ:=lh (((MF.out.set (s':={{s with ended:=now,cwnd:=max s.cwnd s.kept} with st:=t}) 13 (.int .i64 t) rfl rfl rfl rfl rfl).set (s':={{s with ended:=now,cwnd:=max s.cwnd s.kept} with st:=t,began:=now}) 14 ↑now rfl rfl rfl rfl rfl).set (s':={{s with ended:=now,cwnd:=max s.cwnd s.kept} with st:=t,began:=now,rounds:=0}) 15 ↑ζ rfl rfl rfl rfl rfl);go_wp2_with fail;go_end0
 exact MZ.out.post

theorem MR {P:EP} {s:ES} (now:Nat) (t:Int) (W:World) (h:aG W B P s) (ho:s.ok k):
  Calls prog 174 #[↑(π P.b),↑now,.int .i64 t] W (aZ B P (.returned (.tuple #[])) (s.turn now t) W):=by
 unfold ES.turn;by_cases hn:t=s.st
 ·rw [if_pos hn];exact rN now t W h hn
 ·rw [if_neg hn]
  unfold ES.side;by_cases h6:s.st=6
  ·rw [if_pos h6];exact oX now t W h ho hn h6
  ·rw [if_neg h6]
   by_cases t6:t=6
   ·rw [if_pos t6];exact fY.2.1 now t W h ho hn h6 t6
   ·rw [if_neg t6]
    by_cases t4:t=4
    ·rw [if_pos t4];exact fY.2.2 now t W h ho hn h6 t4
    ·rw [if_neg t4]
     by_cases h5:s.st=5∧t=2
     ·rw [if_pos h5];exact rO now t W h ho h5.1 h5.2
     ·rw [if_neg h5];exact fY.1 now t W h ho hn h6 t6 t4 h5
theorem GJ {P:EP} {s:ES} (x:EvS) (hx:x.ok) (W:World) (h:aG W B P s) (ho:s.ok k):
  Calls prog 173 #[↑(π P.b),x.val] W (aZ B P (.returned (.tuple #[])) (s.yield x) W):=by
 unfold ES.yield;by_cases h0:s.st=0
 ·rw [if_pos (Or.inl h0)];exact i7.1 x hx W h ho h0
 ·by_cases h5:s.st=5
  ·rw [if_pos (Or.inr h5)];exact i7.2.1 x hx W h ho h5
  ·rw [if_neg (by simp [h0,h5])];exact i7.2.2 x hx W h ho h0 h5

def EvS.smp (x:EvS):Array Value:=#[↑x.sd,↑x.si,↑x.sr,↑x.rt,.bool x.sl]
structure eU (W:World) (B:Nat) (P:EP) (s:ES) (x:EvS) (w:World):Prop where
 m:aX W B P s x w
 sm:Blk w (W.heap.size + 1) 130 x.smp
theorem eU.to {W w w':World} {B:Nat} {P:EP} {s:ES} {x:EvS} (h:eU W B P s x w) (k:Below ↑w w w'):eU W B P s x w':=⟨h.m.to k,h.sm.keep k⟩
theorem eU.drew {W w:World} {B:Nat} {P:EP} {s:ES} {x:EvS} (h:eU W B P s x w):eU W B P s x w.drew:=h.to ((aB.drew w).below _)
theorem eU.cat {P:EP} {s s':ES} {x:EvS} (h:eU W B P s x w) (k:aY w B P s' w'):eU W B P s' x w':=⟨aY.mi h.m k,k.kt _ (by decide) _ _ h.sm⟩
theorem eU.start {W:World} {B:Nat} {P:EP} {s:ES} (h:aG W B P s) (x:EvS):eU W B P s x ((W.alloc (.cells x.cells 137)).alloc (.cells x.smp 130)):=
 ⟨(aX.start h x).to (aC _ _),Blk.new1 W _ _ _⟩
def lZ (W:World) (B:Nat) (P:EP) (x:EvS) (w:World):Prop:=∃s,eU W B P s x w
theorem dJ {P:EP} {s:ES} {x:EvS} (h:Hid (eU W B P s x w)):Hid (lZ W B P x w):=lh ⟨s,h.out⟩
theorem kC {P:EP} {x:EvS} (h:Hid (lZ W B P x w)) (k:Below ↑w w w'):Hid (lZ W B P x w'):=by
 obtain ⟨s,q⟩:=h.out;exact lh ⟨s,q.to k⟩
theorem yI {P:EP} {x:EvS} (hv:x.cells[i]? =some v):∀w,Hid (lZ W B P x w)→w.cell? ⟨W.heap.size,i,none⟩=some v:=fun w q=>by
 obtain ⟨s,h⟩:=q.out;exact h.m.ev.cell hv
theorem tU {P:EP} {x:EvS} (hv:x.smp[i]? =some v):∀w,Hid (lZ W B P x w)→w.cell? ⟨W.heap.size + 1,i,none⟩=some v:=fun w q=>by
 obtain ⟨s,h⟩:=q.out;exact h.sm.cell hv
theorem BJ {P:EP} {x:EvS} (hv:∀s,(eE P s)[i]? =some v):∀w,Hid (lZ W B P x w)→w.cell? ⟨P.b,i,none⟩=some v:=fun w q=>by
 obtain ⟨s,h⟩:=q.out;exact h.m.at_.e.cell (hv s)
theorem UI {P:EP} {s:ES} {x:EvS} (hv:(eE P s)[i]? =some v):∀w,Hid (eU W B P s x w)→w.cell? ⟨P.b,i,none⟩=some v:=fun w q=>q.out.m.at_.e.cell hv
theorem UJ {P:EP} {s:ES} {x:EvS} (h:Hid (eU W B P s x w)) (k:Below ↑w w w'):Hid (eU W B P s x w'):=lh (h.out.to k)
theorem put_any (y:CY) (p x b:Nat) (W:World) (hy:kL W p y) (h:W.cell? ⟨b,0,none⟩=some ↑x) (hne:b≠p):
  Calls prog 219 #[↑(π p),.slice (some ⟨b,0,none⟩) 1 1] W fun e w'=>e=.returned (.tuple #[])∧kL w' p (y.put [x])∧W.grownBy w' (some p):=
 QB p y (some ⟨b,0,none⟩) 1 [x] W hy (fun _=>⟨b,0,rfl,World.block_lt_of_cell? W _ h,fun i hi=>by
  match i,hi with
  | 0,_=>exact h⟩) (fun _ a ha=>by cases ha;exact hne) (by simp)
theorem oY (W:World) (b x:Nat) (T:TypeId) (hb:b=W.heap.size):(W.alloc (.cells #[↑x] T)).cell? ⟨b,0,none⟩=some ↑x:=by subst hb;exact aM rfl rfl
theorem rP {P:EP} {s:ES} {sl:Bool} (hx:EvS.ok ⟨now,sd,si,sr,rt,sl,false,dl,ac,lo,fl⟩) (W:World) (h:aG W B P s) (ho:s.ok k):
  Calls prog 170 #[↑(π P.b),EvS.val ⟨now,sd,si,sr,rt,sl,false,dl,ac,lo,fl⟩] W (aZ B P (.returned (.bool false)) {s with f:=s.f.to now} W):=by
 have M0:=lh (aX.start h ⟨now,sd,si,sr,rt,sl,false,dl,ac,lo,fl⟩);obtain ⟨g,hg,hf⟩:=M0.out.drew.at_.f;have HT:=lh (OY P.a P.r g now s.f _ hf ho.f hx.now);have HF:=lh hf;have M1:=lh M0.out.drew;have c10:=M1.out.at_.e.cell (i:=10) (v:=↑(π P.a)) rfl;have e0:=M1.out.ev.cell (i:=0) (v:=↑now) rfl;clear h ho hx hf;unfold EvS.val;simp only [EvS.cells] at M0 M1 HT HF c10 e0 ⊢;go_enter func170,ntmps170;go_wp2_with fail;generalize W.alloc (.cells #[↑now,↑sd,↑si,↑sr,↑rt,.bool sl,.bool false,↑dl,↑ac,↑lo,↑fl] 137)=w0 at *;go_region_with (first
  | (go_at_call 217;(refine HT.out.mono ?_);rintro e w1 hp;obtain rfl:=hp.e;have M2:=lh (aY.mi M1.out (aY.fl M1.out.at_ hg HF.out hp));clear hp))
 all_goals
  clear M0 M1 c10 e0 HT;go_wp2_with fail;go_ret;exact ⟨rfl,M2.out.at_,M2.out.bel,M2.out.kt⟩
theorem rQ {P:EP} {s:ES} (hx:EvS.ok ⟨now,sd,si,sr,rt,false,true,dl,ac,lo,fl⟩) (W:World) (h:aG W B P s) (ho:s.ok k) (hk:k≤900):
  Calls prog 170 #[↑(π P.b),EvS.val ⟨now,sd,si,sr,rt,false,true,dl,ac,lo,fl⟩] W (aZ B P (.returned (.bool (s.n.ackB (Pl.subS dl sd)))) {s with f:=s.f.put now rt,y:=s.y.put [sr],n:=s.n.ackS (Pl.subS dl sd) dl} W):=by
 have M0:=lh (eU.start h ⟨now,sd,si,sr,rt,false,true,dl,ac,lo,fl⟩);have M1:=lh M0.out.drew;obtain ⟨g,hg,hf⟩:=M1.out.m.at_.f;have HP:=lh (FD P.a P.r g now rt s.f _ hf ho.f hx.now);have HF:=lh hf;have HB:=lh (fun w h=>mU P.y s.y w h);have HC:=lh (fun b w=>put_any s.y P.y sr b w);have HS:=lh (fun b w hw=>gZ dl sd b hx.dl hx.sd w hw);have HA:=lh (fun w h=>DV P.n (Pl.subS dl sd) dl s.n w h (Nat.lt_of_le_of_lt ho.nn (by omega)));have p10:=BJ (W:=W) (B:=B) (P:=P) (x:=⟨now,sd,si,sr,rt,false,true,dl,ac,lo,fl⟩) (i:=10) (v:=↑(π P.a)) (fun _=>rfl);have p11:=BJ (W:=W) (B:=B) (P:=P) (x:=⟨now,sd,si,sr,rt,false,true,dl,ac,lo,fl⟩) (i:=11) (v:=↑(π P.y)) (fun _=>rfl);have p12:=BJ (W:=W) (B:=B) (P:=P) (x:=⟨now,sd,si,sr,rt,false,true,dl,ac,lo,fl⟩) (i:=12) (v:=↑(π P.n)) (fun _=>rfl);have v0:=yI (W:=W) (B:=B) (P:=P) (x:=⟨now,sd,si,sr,rt,false,true,dl,ac,lo,fl⟩) (i:=0) (v:=↑now) rfl;have v7:=yI (W:=W) (B:=B) (P:=P) (x:=⟨now,sd,si,sr,rt,false,true,dl,ac,lo,fl⟩) (i:=7) (v:=↑dl) rfl;have q0:=tU (W:=W) (B:=B) (P:=P) (x:=⟨now,sd,si,sr,rt,false,true,dl,ac,lo,fl⟩) (i:=0) (v:=↑sd) rfl;have q2:=tU (W:=W) (B:=B) (P:=P) (x:=⟨now,sd,si,sr,rt,false,true,dl,ac,lo,fl⟩) (i:=2) (v:=↑sr) rfl;have q3:=tU (W:=W) (B:=B) (P:=P) (x:=⟨now,sd,si,sr,rt,false,true,dl,ac,lo,fl⟩) (i:=3) (v:=↑rt) rfl;have q4:=tU (W:=W) (B:=B) (P:=P) (x:=⟨now,sd,si,sr,rt,false,true,dl,ac,lo,fl⟩) (i:=4) (v:=.bool false) rfl;clear h ho hx hf hk;unfold EvS.val;generalize hX:(EvS.mk now sd si sr rt false true dl ac lo fl)=X at *;have HE:Hid (X.cells=#[↑now,↑sd,↑si,↑sr,↑rt,.bool false,.bool true,↑dl,↑ac,↑lo,↑fl]):=lh (by rw [← hX];rfl);have HSm:Hid (X.smp=#[↑sd,↑si,↑sr,↑rt,.bool false]):=lh (by rw [← hX];rfl);clear hX;rw [HE.out] at M0 M1 HP HF ⊢;rw [HSm.out] at M0 M1 HP HF;go_enter func170,ntmps170;go_wp2_with fail;generalize ((W.alloc (.cells #[↑now,↑sd,↑si,↑sr,↑rt,.bool false,.bool true,↑dl,↑ac,↑lo,↑fl] 137)).alloc (.cells #[↑sd,↑si,↑sr,↑rt,.bool false] 130))=w0 at *;have X1:=dJ M1;go_region_held3 (fun w'=>Hid (lZ W B P X w'))
  (first | with_reducible exact X1 | with_reducible exact X2)
  (first
   | (go_at_call 218;(with_reducible refine HP.out.mono ?_);rintro e w1 hp;obtain rfl:=hp.e;have M2:=lh (M1.out.cat (aY.fl M1.out.m.at_ hg HF.out hp));have X2:=dJ M2;clear hp))
 clear HP HF M0 M1 X1;go_wp2_with fail;have M3:=lh M2.out.drew;clear X2;have b4:=q4 _ (dJ M2);go_region
 have M4:=M3;clear M2 HB b4;go_wp2_with fail;have M5:=lh M4.out.drew;have X5:=dJ M5;go_region_held3 (fun w'=>Hid (lZ W B P X w'))
  (first | with_reducible exact X5 | with_reducible exact kC X5 (aC _ _) | with_reducible exact kC (by assumption) (aC _ _) | with_reducible exact kC (by assumption) (cM _ _) | with_reducible exact X6 | with_reducible exact dJ (lh (M4.out.to (cM _ _))))
  (first
   | (go_at_call 219;(refine (HC.out _ _ (by first | exact (M4.out.to (cM _ _)).m.at_.y | exact (M5.out.to (aC _ _)).m.at_.y) (by first | exact aN (oY _ _ _ _ (by simp)) | exact oY _ _ _ _ (by simp)) (Nat.ne_of_gt (Blk.lt M4.out.m.at_.y))).mono ?_);rintro e w3 ⟨rfl,hy,hgr⟩;have M6:Hid (eU W B P {s with f:=s.f.put now rt,y:=s.y.put [sr]} X w3):=(by first | exact lh ((M4.out.to (cM _ _)).cat (aY.cy (M4.out.to (cM _ _)).m.at_ hy hgr)) | exact lh ((M5.out.to (aC _ _)).cat (aY.cy (M5.out.to (aC _ _)).m.at_ hy hgr)));have X6:=dJ M6;clear hy hgr))
 clear M4 M5 X5 X6;go_wp2_with fail;have M7:=lh M6.out.drew;have X7:=dJ M7;go_region_held3 (fun w'=>Hid (lZ W B P X w'))
  (first | with_reducible exact X7 | with_reducible exact kC X7 (aC _ _) | with_reducible assumption | with_reducible exact kC (by assumption) (aC _ _) | with_reducible exact kC (by assumption) (cM _ _) | with_reducible exact X8 | with_reducible exact dJ (lh (M6.out.to (cM _ _))))
  (first
   | (go_at_call 92;(refine (HS.out _ _ (by first | exact aN (oY _ _ _ _ (by simp)) | exact oY _ _ _ _ (by simp))).mono ?_);rintro e w4 ⟨rfl,rfl⟩)
   | (go_at_call 220;(refine (HA.out _ (by first | exact (M6.out.to (cM _ _)).m.at_.n | exact (M7.out.to (aC _ _)).m.at_.n)).mono ?_);rintro e w5 hp;obtain rfl:=hp.e;have M8:Hid (eU W B P {s with f:=s.f.put now rt,y:=s.y.put [sr],n:=s.n.ackS (Pl.subS dl sd) dl} X w5):=(by first | exact lh ((M6.out.to (cM _ _)).cat (aY.ct (M6.out.to (cM _ _)).m.at_ hp.blk hp.gr)) | exact lh ((M7.out.to (aC _ _)).cat (aY.ct (M7.out.to (aC _ _)).m.at_ hp.blk hp.gr)));have X8:=dJ M8;clear hp))
 go_wp2_with fail;go_ret;exact ⟨rfl,M8.out.m.at_,M8.out.m.bel,M8.out.m.kt⟩
theorem i8:(∀{B k:Nat} {P:EP} {s:ES} {now sd si sr rt dl ac lo fl:Nat} (hx:EvS.ok ⟨now,sd,si,sr,rt,true,true,dl,ac,lo,fl⟩) (W:World) (h:aG W B P s) (ho:s.ok k) (hk:k≤900) (hb:s.y.best≤sr),Calls prog 170 #[↑(π P.b),EvS.val ⟨now,sd,si,sr,rt,true,true,dl,ac,lo,fl⟩] W (aZ B P (.returned (.bool (s.n.ackB (Pl.subS dl sd)))) {s with f:=s.f.put now rt,y:=s.y.put [sr],n:=s.n.ackS (Pl.subS dl sd) dl} W))∧(∀{B k:Nat} {P:EP} {s:ES} {now sd si sr rt dl ac lo fl:Nat} (hx:EvS.ok ⟨now,sd,si,sr,rt,true,true,dl,ac,lo,fl⟩) (W:World) (h:aG W B P s) (ho:s.ok k) (hk:k≤900) (hb:¬ s.y.best≤sr),Calls prog 170 #[↑(π P.b),EvS.val ⟨now,sd,si,sr,rt,true,true,dl,ac,lo,fl⟩] W (aZ B P (.returned (.bool (s.n.ackB (Pl.subS dl sd)))) {s with f:=s.f.put now rt,y:=s.y,n:=s.n.ackS (Pl.subS dl sd) dl} W)):=by
 refine ⟨?_,?_⟩
 have k0v:Hid True:=trivial;rotate_left;have k1v:Hid True:=trivial;rotate_left
 all_goals intro B k P s now sd si sr rt dl ac lo fl hx W h ho hk hb
 all_goals
  first
  |revert k0v;intro k0v;have d0:decide ((s.y.best:Int)≤(sr:Int))=true:=decide_eq_true (by omega);have d1:decide (s.y.best≤sr)=true:=decide_eq_true hb
  |have d0:decide ((s.y.best:Int)≤(sr:Int))=false:=decide_eq_false (by omega);have d1:decide (s.y.best≤sr)=false:=decide_eq_false hb
  clear hb;have M0:=lh (eU.start h ⟨now,sd,si,sr,rt,true,true,dl,ac,lo,fl⟩);have M1:=lh M0.out.drew;obtain ⟨g,hg,hf⟩:=M1.out.m.at_.f;have HP:=lh (FD P.a P.r g now rt s.f _ hf ho.f hx.now);have HF:=lh hf;have HB:=lh (fun w h=>mU P.y s.y w h);have HC:=lh (fun b w=>put_any s.y P.y sr b w);have HS:=lh (fun b w hw=>gZ dl sd b hx.dl hx.sd w hw);have HA:=lh (fun w h=>DV P.n (Pl.subS dl sd) dl s.n w h (Nat.lt_of_le_of_lt ho.nn (by omega)));have p10:=BJ (W:=W) (B:=B) (P:=P) (x:=⟨now,sd,si,sr,rt,true,true,dl,ac,lo,fl⟩) (i:=10) (v:=↑(π P.a)) (fun _=>rfl);have p11:=BJ (W:=W) (B:=B) (P:=P) (x:=⟨now,sd,si,sr,rt,true,true,dl,ac,lo,fl⟩) (i:=11) (v:=↑(π P.y)) (fun _=>rfl);have p12:=BJ (W:=W) (B:=B) (P:=P) (x:=⟨now,sd,si,sr,rt,true,true,dl,ac,lo,fl⟩) (i:=12) (v:=↑(π P.n)) (fun _=>rfl);have v0:=yI (W:=W) (B:=B) (P:=P) (x:=⟨now,sd,si,sr,rt,true,true,dl,ac,lo,fl⟩) (i:=0) (v:=↑now) rfl;have v7:=yI (W:=W) (B:=B) (P:=P) (x:=⟨now,sd,si,sr,rt,true,true,dl,ac,lo,fl⟩) (i:=7) (v:=↑dl) rfl;have q0:=tU (W:=W) (B:=B) (P:=P) (x:=⟨now,sd,si,sr,rt,true,true,dl,ac,lo,fl⟩) (i:=0) (v:=↑sd) rfl;have q2:=tU (W:=W) (B:=B) (P:=P) (x:=⟨now,sd,si,sr,rt,true,true,dl,ac,lo,fl⟩) (i:=2) (v:=↑sr) rfl;have q3:=tU (W:=W) (B:=B) (P:=P) (x:=⟨now,sd,si,sr,rt,true,true,dl,ac,lo,fl⟩) (i:=3) (v:=↑rt) rfl;have q4:=tU (W:=W) (B:=B) (P:=P) (x:=⟨now,sd,si,sr,rt,true,true,dl,ac,lo,fl⟩) (i:=4) (v:=.bool true) rfl;clear h ho hx hf hk;unfold EvS.val;generalize hX:(EvS.mk now sd si sr rt true true dl ac lo fl)=X at *;have HE:Hid (X.cells=#[↑now,↑sd,↑si,↑sr,↑rt,.bool true,.bool true,↑dl,↑ac,↑lo,↑fl]):=lh (by rw [← hX];rfl);have HSm:Hid (X.smp=#[↑sd,↑si,↑sr,↑rt,.bool true]):=lh (by rw [← hX];rfl);clear hX;rw [HE.out] at M0 M1 HP HF ⊢;rw [HSm.out] at M0 M1 HP HF;go_enter func170,ntmps170;go_wp2_with fail;generalize ((W.alloc (.cells #[↑now,↑sd,↑si,↑sr,↑rt,.bool true,.bool true,↑dl,↑ac,↑lo,↑fl] 137)).alloc (.cells #[↑sd,↑si,↑sr,↑rt,.bool true] 130))=w0 at *;have X1:=dJ M1;go_region_held3 (fun w'=>Hid (lZ W B P X w'))
   (first | with_reducible exact X1 | with_reducible exact X2)
   (first
    | (go_at_call 218;(with_reducible refine HP.out.mono ?_);rintro e w1 hp;obtain rfl:=hp.e;have M2:=lh (M1.out.cat (aY.fl M1.out.m.at_ hg HF.out hp));have X2:=dJ M2;clear hp))
  clear HP HF M0 M1 X1;go_wp2_with fail;have M3:=lh M2.out.drew;clear X2;have X3:=dJ M3;have i11:=UI (W:=W) (B:=B) (P:=P) (s:={s with f:=s.f.put now rt}) (x:=X) (i:=11) (v:=↑(π P.y)) rfl;have i2:=fun w (q:Hid (eU W B P {s with f:=s.f.put now rt} X w))=>q2 w (dJ q);have i4:=fun w (q:Hid (eU W B P {s with f:=s.f.put now rt} X w))=>q4 w (dJ q);go_region_held3 (fun w'=>Hid (eU W B P {s with f:=s.f.put now rt} X w'))
   (first | with_reducible exact UJ (by assumption) hb | with_reducible exact M3)
   (first
    | (go_at_call 88;(with_reducible refine (HB.out _ M3.out.m.at_.y).mono ?_);rintro e w2 ⟨rfl,hb⟩))
  have M4:Hid (eU W B P {s with f:=s.f.put now rt} X w2):=lh (M3.out.to hb);clear i11 i2 i4 X3 hb;clear M2 M3 HB;go_wp2_with fail;first
  |revert k1v;intro k1v;have M7:=lh M4.out.drew;have X7:=dJ M7;go_region_held3 (fun w'=>Hid (lZ W B P X w'))
    (first | with_reducible exact X7 | with_reducible exact kC X7 (aC _ _) | with_reducible assumption | with_reducible exact kC (by assumption) (aC _ _) | with_reducible exact kC (by assumption) (cM _ _) | with_reducible exact X8 | with_reducible exact dJ (lh (M4.out.to (cM _ _))))
    (first
     | (go_at_call 92;(refine (HS.out _ _ (by first | exact aN (oY _ _ _ _ (by simp)) | exact oY _ _ _ _ (by simp))).mono ?_);rintro e w4 ⟨rfl,rfl⟩)
     | (go_at_call 220;(refine (HA.out _ (by first | exact (M4.out.to (cM _ _)).m.at_.n | exact (M7.out.to (aC _ _)).m.at_.n)).mono ?_);rintro e w5 hp;obtain rfl:=hp.e;have M8:Hid (eU W B P {s with f:=s.f.put now rt,y:=s.y,n:=s.n.ackS (Pl.subS dl sd) dl} X w5):=(by first | exact lh ((M4.out.to (cM _ _)).cat (aY.ct (M4.out.to (cM _ _)).m.at_ hp.blk hp.gr)) | exact lh ((M7.out.to (aC _ _)).cat (aY.ct (M7.out.to (aC _ _)).m.at_ hp.blk hp.gr)));have X8:=dJ M8;clear hp))
  |have M5:=lh M4.out.drew;have X5:=dJ M5;go_region_held3 (fun w'=>Hid (lZ W B P X w'))
    (first | with_reducible exact X5 | with_reducible exact kC X5 (aC _ _) | with_reducible exact kC (by assumption) (aC _ _) | with_reducible exact kC (by assumption) (cM _ _) | with_reducible exact X6 | with_reducible exact dJ (lh (M4.out.to (cM _ _))))
    (first
     | (go_at_call 219;(refine (HC.out _ _ (by first | exact (M4.out.to (cM _ _)).m.at_.y | exact (M5.out.to (aC _ _)).m.at_.y) (by first | exact aN (oY _ _ _ _ (by simp)) | exact oY _ _ _ _ (by simp)) (Nat.ne_of_gt (Blk.lt M4.out.m.at_.y))).mono ?_);rintro e w3 ⟨rfl,hy,hgr⟩;have M6:Hid (eU W B P {s with f:=s.f.put now rt,y:=s.y.put [sr]} X w3):=(by first | exact lh ((M4.out.to (cM _ _)).cat (aY.cy (M4.out.to (cM _ _)).m.at_ hy hgr)) | exact lh ((M5.out.to (aC _ _)).cat (aY.cy (M5.out.to (aC _ _)).m.at_ hy hgr)));have X6:=dJ M6;clear hy hgr))
   clear M4 M5 X5 X6;go_wp2_with fail;have M7:=lh M6.out.drew;have X7:=dJ M7;go_region_held3 (fun w'=>Hid (lZ W B P X w'))
    (first | with_reducible exact X7 | with_reducible exact kC X7 (aC _ _) | with_reducible assumption | with_reducible exact kC (by assumption) (aC _ _) | with_reducible exact kC (by assumption) (cM _ _) | with_reducible exact X8 | with_reducible exact dJ (lh (M6.out.to (cM _ _))))
    (first
     | (go_at_call 92;(refine (HS.out _ _ (by first | exact aN (oY _ _ _ _ (by simp)) | exact oY _ _ _ _ (by simp))).mono ?_);rintro e w4 ⟨rfl,rfl⟩)
     | (go_at_call 220;(refine (HA.out _ (by first | exact (M6.out.to (cM _ _)).m.at_.n | exact (M7.out.to (aC _ _)).m.at_.n)).mono ?_);rintro e w5 hp;obtain rfl:=hp.e;have M8:Hid (eU W B P {s with f:=s.f.put now rt,y:=s.y.put [sr],n:=s.n.ackS (Pl.subS dl sd) dl} X w5):=(by first | exact lh ((M6.out.to (cM _ _)).cat (aY.ct (M6.out.to (cM _ _)).m.at_ hp.blk hp.gr)) | exact lh ((M7.out.to (aC _ _)).cat (aY.ct (M7.out.to (aC _ _)).m.at_ hp.blk hp.gr)));have X8:=dJ M8;clear hp))
  go_wp2_with fail;go_ret;exact ⟨rfl,M8.out.m.at_,M8.out.m.bel,M8.out.m.kt⟩
theorem wI {P:EP} {s:ES} (x:EvS) (hx:x.ok) (W:World) (h:aG W B P s) (ho:s.ok k) (hk:k≤900):
  Calls prog 170 #[↑(π P.b),x.val] W (aZ B P (.returned (.bool (s.over x))) (s.mea x) W):=by
 obtain ⟨now,sd,si,sr,rt,sl,sm,dl,ac,lo,fl⟩:=x;cases sm with
 | false=>
   have:=rP hx W h ho;simpa [ES.over,ES.mea] using this
 | true=>
   cases sl with
   | false=>
     have:=rQ hx W h ho hk;simpa [ES.over,ES.mea,ES.rput] using this
   | true=>
     by_cases hb:s.y.best≤sr
     ·have:=i8.1 hx W h ho hk hb
      simpa [ES.over,ES.mea,ES.rput,hb] using this
     ·have:=i8.2 hx W h ho hk hb
      simpa [ES.over,ES.mea,ES.rput,hb] using this
end

section
open Go.RowKit
structure UK (W:World) (p:LP) (l:List Pk) (s:LKS) (e:Ending) (w:World):Prop where
 e:∃v,e=.returned v∧bV 73 W.heap.size w v l
 li:LI W p s w
structure LY (W:World) (p:LP) (z:Nat) (cs:Array Value) (v:Value) (l:List Pk) (s:LKS) (w:World):Prop where
 x:LX W p z 73 cs s w
 own:bV 73 W.heap.size w v l
theorem LY.to {W w w':World} {p:LP} {z:Nat} {cs:Array Value} {v:Value} {l:List Pk} {s:LKS} (h:LY W p z cs v l s w) (k:Below ↑w w w'):LY W p z cs v l s w':=⟨h.x.to k,h.own.keep k⟩
theorem LY.set2 {W w:World} {p:LP} {z:Nat} {cs:Array Value} {v:Value} {l:List Pk} {s s':LKS} (h:LY W p z cs v l s w) (i j:Nat) (u u':Value) (he:((s.cells p).setIfInBounds i u).setIfInBounds j u'=s'.cells p) (h3:s.k=s'.k∧s.q=s'.q∧s.j=s'.j):LY W p z cs v l s' ((w.setCell ⟨p.b,i,none⟩ u).setCell ⟨p.b,j,none⟩ u'):=by
 refine ⟨h.x.set2 i j u u' he h3,?_⟩;obtain ⟨g,m,h1,_⟩:=h.x.at_;exact h.own.blk (fun b ds _ hb=>(hb.set_other i u (hb.ty h1.head (by decide))).set_other j u' (hb.ty h1.head (by decide)))
theorem MS (W:World) (p:LP) (z:Nat) (cs:Array Value) (v:Value) (l:List Pk) (s:LKS) (c0 n:Nat) (hc:c0≤1267650600228229401496703205376) (hn:n≤↑ω):∀w,Hid (LY W p z cs v l s w)→
  Calls prog 135 #[.agg #[↑(LKS.hi c0),↑(LKS.lo c0)],↑n] w fun e w'=>e=.returned (.agg #[↑(LKS.hi (c0 + n)),↑(LKS.lo (c0 + n))])∧Hid (LY W p z cs v l s w'):=
 fun w h=>(yF c0 n w hc hn).mono fun e w' q=>⟨q.1,lh (h.out.to q.2)⟩
theorem RC {p:LP} {s:LKS}:(∀w,Hid (LI W p s w)→w.cell? ⟨p.b,4,none⟩=some ↑(π p.kb))∧(∀w,Hid (LI W p s w)→w.cell? ⟨p.b,5,none⟩=some ↑(π p.qb))∧(∀w,Hid (LI W p s w)→w.cell? ⟨p.b,6,none⟩=some ↑(π p.jb))∧(∀w,Hid (LI W p s w)→w.cell? ⟨p.b,7,none⟩=some ↑s.t):=
 ⟨fun w h=>h.out.kp.1,fun w h=>h.out.kp.2.1,fun w h=>h.out.kp.2.2,fun w h=>h.out.cell (fun _=>rfl)⟩
theorem RD (W:World) (p:LP) (s:LKS) (hm:s.j.l.length≤5500) (w:World) (h:LI W p s w):
  Calls prog 138 #[↑(π p.jb),↑s.t] w fun e w'=>∃v,e=.returned v∧Hid (bV 73 W.heap.size w' v s.out)∧Hid (LI W p (s.withJ (s.j.outB s.t)) w'):=by
 obtain ⟨g,i,h1,h2⟩:=h.at_;refine (RB p.jb p.jr i s.t s.j w h1.j hm).mono fun e w' k=>?_;obtain ⟨v,he,hv⟩:=k.e;exact ⟨v,he,lh (hv.weak h.fr.size),lh (h.j h1 h2 k.at_ k.fr)⟩
theorem rR (s:LKS):s.deliver=(s.withJ (s.j.outB s.t)).withD (s.deliv + bU s.out):=rfl
theorem RE (s:LKS) (a b:Nat):(s.withD a).withD b=s.withD b:=rfl
theorem GK (l:List Pk) (x:Pk):bU (l ++ [x])=bU l + x.size:=by rw [fX,cL,fW];omega
theorem wJ (p:LP) (s:LKS) (N:Nat) (W:World) (h:dB W p s) (ho:s.ok N) (hN:N≤5500):
  Calls prog 76 #[↑(π p.b)] W (UK W p s.out s.deliver):=by
 have M0:=lh (LI.start h).drew;have HO:=lh (RD W p s (by have:=ho.n;omega));have HZ:=lh (LKS.out_size ho);have HD:Hid (s.deliv≤1267650600228229401496703205376 - 18446744073709551615 * 5500):=lh (by have:=ho.c1;have:=ho.c2;have:=ho.came;omega);have HLn:Hid (s.out.length≤5500):=lh (by have:=ho.n;have:=BxS.told_len s.j s.t;show (s.j.told s.t).length≤5500;omega);have HE:=lh (rR s);obtain ⟨_,_,r6,r7⟩:=RC (W:=W) (p:=p) (s:=s);clear h ho hN;go_enter func76,ntmps76;go_wp2_with fail;refine aO (S:=(fun w'=>Hid (LI W p s w'))) 8 (by kernel_rfl) (by kernel_rfl) (by kernel_rfl) M0 ?_;generalize W.drew=wd at *;simp only [List.size_toArray,List.length_cons,List.length_nil,Nat.reduceAdd,Array.replicate_succ,Array.replicate_zero,List.push_toArray,List.nil_append,List.cons_append];refine ckc 0 ?_;refine ckc 1 ?_;refine ckc 2 ?_;refine cks 3 ?_;refine ckc 4 ?_;refine ckc 5 ?_;refine ckc 6 ?_;refine cks 7 ?_;refine bJ.last (by kernel_rfl) (fun w hSw=>?_);refine rdy [8] ?_;refine cns (fun K hK=>?_) .nil;go_simp;refine (HO.out _ hSw.out).mono ?_;rintro e w1 ⟨v,rfl,V1,M1⟩;clear hSw M0 HO r6 r7;go_wp2_with fail;refine bck hK trivial (fun _=>?_);clear hK;refine tkc 9 ?_ trivial;refine wpAnyH_done (by kernel_rfl) ?_ _;skip
 generalize s.out=l at *;obtain ⟨ao,cap,rfl,hc1,hc2,_,_⟩:=V1.out.form;have HB:Hid (LI W p ((s.withJ (s.j.outB s.t)).withD s.deliv) w1):=M1;have EW:=lh (fun a b=>RE (s.withJ (s.j.outB s.t)) a b);have ED:Hid (((s.withJ (s.j.outB s.t)).withD (s.deliv + bU l))=s.deliver):=lh HE.out.symm;clear M1 HE;generalize s.withJ (s.j.outB s.t)=s2 at *;generalize s.deliv=d0 at *;go_wp2_with fail;go_loopw [17] (fun i wr=>∃k:Nat,i=.int .i64 (k:Int)∧k≤l.length∧Hid (LI W p (s2.withD (d0 + bU (l.take k))) wr)∧Hid (bV 73 W.heap.size wr (.slice ao l.length cap) l)) (fun i _=>l.length - (intOf i).toNat)
 case atStart=>exact ⟨0,rfl,Nat.zero_le _,HB,V1⟩
 case round=>
  obtain ⟨k,rfl,hk,HL,HV⟩:=hrel;obtain ⟨ao',cap',hv',_,_,hit,_⟩:=HV.out.form;cases hv'
  by_cases hlt:k < l.length
  ·obtain ⟨ad,rfl,_⟩:=hit.cells (by omega)
   obtain ⟨g,off,rfl,_,hc⟩:=vN hit (by omega);obtain ⟨x,hx⟩:∃x,x=l.getD k Itm.z:=⟨_,rfl⟩;obtain ⟨a0,a1,a2,a3,a4,a5,a6⟩:=hc k hlt x hx;have HT:Hid (bU (l.take (k + 1))=bU (l.take k) + x.size):=lh (by rw [pY l k hlt x hx];exact GK _ _);have hxm:x∈l:=by rw [hx];simp [hlt]
   have hxs:=lh (HZ.out x hxm);have htk:bU (l.take k)≤↑ω * 5500:=by
    have h1:=MD (l:=l.take k) (fun y hy=>HZ.out y (List.mem_of_mem_take hy));have h2:(l.take k).length≤5500:=by rw [List.length_take];have:=HLn.out;omega
    omega
   have hd0:=HD.out;have hk5:k < 5500:=by have:=HLn.out;omega
   have HC0:Hid (d0 + bU (l.take k)≤1267650600228229401496703205376):=lh (by omega);have HT2:Hid (d0 + bU (l.take (k + 1))=d0 + bU (l.take k) + x.size):=lh (by rw [HT.out];omega);have i0:(0:Int)≤(k:Int):=by omega
   have i1:(k:Int) < (l.length:Int):=by omega
   clear hc hx hxm HT HZ HB V1 hit htk hd0;generalize d0 + bU (l.take k)=c0 at *;obtain ⟨s1,hs1⟩:∃s1,s1=s2.withD c0:=⟨_,rfl⟩;have Es1:Hid (∀c,s1.withD c=s2.withD c):=lh (fun c=>by rw [hs1];rfl);have hc0:s1.deliv=c0:=by rw [hs1];rfl
   rw [← hs1] at HL;have HB:Hid (LY W p wr.heap.size #[↑x.n,↑x.size,↑x.sent,↑x.first,↑x.deliv,↑x.at_,.bool x.lim] (.slice (some ⟨g,off,none⟩) l.length cap) l s1 (wr.alloc (.cells #[↑x.n,↑x.size,↑x.sent,↑x.first,↑x.deliv,↑x.at_,.bool x.lim] 73))):=lh ⟨HL.out.box _ _,HV.out.keep (aC _ _)⟩;clear HL HV hs1;go_upto_region 5 with fail
   clear a0 a1 a2 a3 a4 a5 a6;generalize wr.alloc (.cells #[↑x.n,↑x.size,↑x.sent,↑x.first,↑x.deliv,↑x.at_,.bool x.lim] 73)=w1 at *;generalize wr.heap.size=z at *;obtain ⟨v,hv⟩:∃v,v=Value.slice (some ⟨g,off,none⟩) l.length cap:=⟨_,rfl⟩;have HM:=lh (MS W p z #[↑x.n,↑x.size,↑x.sent,↑x.first,↑x.deliv,↑x.at_,.bool x.lim] v l s1 c0 x.size HC0.out hxs.out);have HCs:Hid (∀(c:Nat) (p:LP),((s1.cells p).setIfInBounds 12 ↑(LKS.hi c)).setIfInBounds 13 ↑(LKS.lo c)=(s1.withD c).cells p):=lh (fun c p=>BH s1 c p);obtain ⟨rh',rl'⟩:=GH (W:=W) (p:=p) (z:=z) (cs:=#[↑x.n,↑x.size,↑x.sent,↑x.first,↑x.deliv,↑x.at_,.bool x.lim]) (s:=s1);have rh:∀w,Hid (LY W p z #[↑x.n,↑x.size,↑x.sent,↑x.first,↑x.deliv,↑x.at_,.bool x.lim] v l s1 w)→w.cell? ⟨p.b,12,none⟩=some ↑(LKS.hi c0):=fun w h=>by rw [← hc0];exact rh' w (lh h.out.x)
   have rl:∀w,Hid (LY W p z #[↑x.n,↑x.size,↑x.sent,↑x.first,↑x.deliv,↑x.at_,.bool x.lim] v l s1 w)→w.cell? ⟨p.b,13,none⟩=some ↑(LKS.lo c0):=fun w h=>by rw [← hc0];exact rl' w (lh h.out.x)
   have rz:∀w,Hid (LY W p z #[↑x.n,↑x.size,↑x.sent,↑x.first,↑x.deliv,↑x.at_,.bool x.lim] v l s1 w)→w.cell? ⟨z,1,none⟩=some ↑x.size:=fun w h=>jS (s:=s1) x w (lh h.out.x);have M0:Hid (LY W p z #[↑x.n,↑x.size,↑x.sent,↑x.first,↑x.deliv,↑x.at_,.bool x.lim] v l s1 w1.drew):=lh (by rw [hv];exact HB.out.to ((aB.drew _).below _));have HVv:=lh hv;clear HB hc0 rh' rl' hv;go_wp2_with fail;refine aO (S:=(fun w'=>Hid (LY W p z #[↑x.n,↑x.size,↑x.sent,↑x.first,↑x.deliv,↑x.at_,.bool x.lim] v l s1 w'))) 10 (by kernel_rfl) (by kernel_rfl) (by kernel_rfl) M0 ?_;simp only [List.size_toArray,List.length_cons,List.length_nil,Nat.reduceAdd,Array.replicate_succ,Array.replicate_zero,List.push_toArray,List.nil_append,List.cons_append];refine ckc 0 ?_;refine ckc 1 ?_;refine ckc 2 ?_;refine ckc 3 ?_;refine cks 4 ?_;refine ckc 5 ?_;refine cks 6 ?_;refine ckl 7 (fun w hS=>HM.out w hS) ?_;refine ckc 8 ?_;refine ckc 9 ?_;refine bJ.last (by kernel_rfl) (fun w hSw=>?_);refine rdy [10] ?_;refine cns (fun K hK=>?_) .nil;have g0:=hSw.out.x.li.free 12;have g1:=hSw.out.x.li.free 13;have g2:=rh _ hSw;have g3:=rl _ hSw;have M2:=lh (hSw.out.set2 (s':=(s1).withD (c0 + x.size)) 12 13 ↑(LKS.hi (c0 + x.size)) ↑(LKS.lo (c0 + x.size)) (HCs.out _ _) ⟨rfl,rfl,rfl⟩);clear hSw rh rl rz;go_simp;refine bck hK trivial (fun _=>?_);clear hK;refine wpAnyH_done (by kernel_rfl) ?_ _;skip
   clear HM HCs g0 g1 g2 g3 M0;rw [Es1.out] at M2;generalize (w.setCell ⟨p.b,12,none⟩ ↑(LKS.hi (c0 + x.size))).setCell ⟨p.b,13,none⟩ ↑(LKS.lo (c0 + x.size))=w2 at *;go_wp2_with fail;go_roundw
   case rel=>exact ⟨k + 1,by go_num,by omega,by rw [HT2.out];exact lh M2.out.x.li,lh (HVv.out▸M2.out.own)⟩
   case measure=>simp [intOf];omega
  ·obtain rfl:k=l.length:=by omega
   rw [List.take_length] at *;go_wp2_with fail;go_ret;exact ⟨⟨_,rfl,HV.out⟩,ED.out▸HL.out⟩
end

section
open Go.RowKit Cf
theorem BK {l r:Nat} (hr:0 < r) (hl:l≤4398046511104):l≤r * Pl.overS l 1 r∧Pl.overS l 1 r≤4398046511104:=by
 unfold Pl.overS;rw [if_neg (by omega),Nat.mul_one];have hm:=Nat.div_add_mod (l + (r - 1)) r;have hlt:=Nat.mod_lt (l + (r - 1)) hr;have hle:(l + (r - 1)) / r≤l:=by
  rw [Nat.div_le_iff_le_mul hr];have:l≤l * r:=Nat.le_mul_of_pos_right _ hr;omega
 have e:min ((l + (r - 1)) / r) 18446744073709551615=(l + (r - 1)) / r:=by omega
 rw [e];refine ⟨?_,by omega⟩;generalize r * ((l + (r - 1)) / r)=z at *;omega
theorem PS.then_wide {p:PS} (hr:p.r≤1099511627776) (hq:p.q≤4194240) (ht:p.t≤4398046511104) (hs:p.s≤p.q * 1000000) {x:Nat} (hx:x≤p.q) (h0:0 < p.r):
  p.nextB x=true∧p.t≤p.nextT x∧(p.tickS (p.nextT x) p.r p.q).takeB x=true:=by
 have em:Pl.mulS x 1000000=x * 1000000:=by unfold Pl.mulS;omega
 have el:p.lack x=x * 1000000 - p.s:=by unfold PS.lack Pl.subS;rw [em]
 have eq:Pl.mulS p.q 1000000=p.q * 1000000:=by unfold Pl.mulS;omega
 have hxq:x * 1000000≤p.q * 1000000:=by omega
 unfold PS.nextB PS.nextT;have hq':¬ p.q < x:=by omega
 have hr':¬ p.r=0:=by omega
 by_cases c:p.lack x=0
 ·simp only [if_neg hq',if_pos c]
  refine ⟨trivial,Nat.le_refl _,?_⟩;unfold PS.takeB PS.tickS;rw [if_neg (by omega),em,eq];apply decide_eq_true
  dsimp only
  rw [Nat.sub_self];unfold Pl.addS Pl.mulS;omega
 ·simp only [if_neg hq',if_neg c,if_neg hr']
  obtain ⟨o1,o2⟩:=BK (l:=p.lack x) h0 (by omega);generalize Pl.overS (p.lack x) 1 p.r=d at *;have e3:Pl.addS p.t d=p.t + d:=by unfold Pl.addS;omega
  rw [e3];refine ⟨trivial,Nat.le_add_right _ _,?_⟩;unfold PS.takeB PS.tickS;rw [if_neg (by omega),em,eq];apply decide_eq_true
  dsimp only
  rw [show p.t + d - p.t=d by omega];unfold Pl.addS Pl.mulS;generalize p.r * d=z at *;omega
theorem SN.pre_none {s:SN} (ho:s.L.out=[]) (hw:s.w≤↑ω):s.pre now=s.tim now:=by
 have hl:(s.tim now).lostL=[]:=by show s.L.out.filter _=[];rw [ho];rfl
 have hk:(s.tim now).keptL=s.L.out:=by show s.L.out.filter _=s.L.out;rw [ho];rfl
 have hls:(s.tim now).loss=s.tim now:=by
  unfold SN.loss;rw [hl,hk,if_neg (by simp)];have e:Pl.addS (s.tim now).w (aS 0 [])=s.w:=by
   show min (s.w + 0) 18446744073709551615=s.w
   omega
  rw [e];rfl
 unfold SN.pre;rw [hl,hls];rfl
theorem SN.stuck {c:Setup} {m d:Nat} {s:SN} (h:s.ok c k m d) (hr:rightC c=true) (hpr:s.p.r=s.e.pace) (hpq:s.p.q=s.e.quant) (hw:0 < s.w) (ho:s.L.out=[]) (hp:s.c.p=false):
  s.nextB=true∧s.c.t≤s.nextT∨s.p.t < s.c.t:=by
 by_cases q:s.p.t < s.c.t
 ·exact .inr q
 ·left
  have hm:=bP hr;have hfl:s.L.fl=0:=by unfold PL.fl;rw [ho];rfl
  have hsz:s.size≤c 0:=by unfold SN.size;rw [h.ec];omega
  have hf:s.fits=true:=by
   have:=h.fr.cl;unfold SN.fits;rw [hfl];simp only [Bool.and_eq_true,decide_eq_true_eq];refine ⟨hw,?_⟩;unfold Pl.addS;omega
  have h1:=h.fr.ql;have h2:=h.fr.pl;obtain ⟨a1,a2,a3⟩:=PS.then_wide (p:=s.p) h.pr h.pq (Nat.le_trans h.pt h.cl.1) h.ps (x:=s.size) (by omega) (by omega);unfold SN.nextB SN.nextT;rw [hp,hf];refine ⟨by simpa using a1,?_⟩;rw [if_pos (by decide)];omega
end
end Go.Proofs.YtjhiooggnpbecaaGreatDoor
