/- Lemmas. -/
import Derived.Test.YtjhiooggnpbecaaGreatDoorK402
import Derived.Test.YtjhiooggnpbecaaGreatDoorK410
import Derived.BigQuiet
set_option linter.unusedVariables false
set_option maxHeartbeats 1000000
namespace Go.Proofs.YtjhiooggnpbecaaGreatDoor
open Tryz
open Go.RowKit Pl
theorem IQ (a b:Int) (w:World) (ha0:0≤a) (ha:a≤↑ω) (hb0:0≤b) (hb:b≤↑ω):
  Calls prog 131 #[.int .u64 a,.int .u64 b] w fun e w'=>e=.returned ↑(mulS a.toNat b.toNat:Nat)∧w=w':=by
 obtain ⟨x,rfl⟩:=Int.eq_ofNat_of_zero_le ha0;obtain ⟨y,rfl⟩:=Int.eq_ofNat_of_zero_le hb0;simp only [Int.toNat_natCast];have HM:=lh (Tryz.bits_Mul64 x y (by omega) (by omega) w);have HE:Hid (mulS x y=min (x * y) 18446744073709551615):=lh rfl;generalize x * y=p at *;have HL:=lh (show p % 18446744073709551616 < 18446744073709551616 by omega);have HD:=lh (show p=18446744073709551616 * (p / 18446744073709551616) + p % 18446744073709551616 by omega);generalize p / 18446744073709551616=hi at *;generalize p % 18446744073709551616=lo at *;clear ha0 ha hb0 hb;by_cases h:hi=0
 ·subst h
  go_enter func131,ntmps131;go_wp2_with (go_at_call 184;refine (HM.out).mono ?_;rintro e w' ⟨rfl,hw⟩;rw [hw])
  go_ret;exact ⟨bH (by have a:=HE.out;have b:=HL.out;have c:=HD.out;omega),rfl⟩
 ·have h':0 < hi:=by omega
  go_enter func131,ntmps131;go_wp2_with (go_at_call 184;refine (HM.out).mono ?_;rintro e w' ⟨rfl,hw⟩;rw [hw])
  go_ret;exact ⟨bH (by have a:=HE.out;have b:=HL.out;have c:=HD.out;omega),rfl⟩
theorem cB (x y:Nat) (w:World) (hx:x≤↑ω) (hy:y≤↑ω):
  Calls prog 131 #[↑x,↑y] w fun e w'=>e=.returned ↑(mulS x y:Nat)∧w=w':=by
 have h:=IQ (x:Int) (y:Int) w (by omega) (by omega) (by omega) (by omega);simpa only [Int.toNat_natCast] using h

structure Ct where
 mark:Nat
 n:Nat
def Ct.cells (s:Ct):Array Value:=#[↑s.mark,↑s.n]
def Ct.zero:Ct:=⟨0,0⟩
def Ct.ackB (s:Ct) (x:Nat):Bool:=decide (s.mark≤x)
def Ct.ackS (s:Ct) (x d:Nat):Ct:=if s.mark≤x then ⟨d,s.n + 1⟩ else s
theorem Ct.ackS_n (s:Ct) (x d:Nat):(s.ackS x d).n≤s.n + 1:=by unfold Ct.ackS;split <;> simp
structure Pi where
 best:Nat
 n:Nat
def Pi.cells (s:Pi):Array Value:=#[↑s.best,↑s.n]
def Pi.zero:Pi:=⟨0,0⟩
def Pi.full (s:Pi):Bool:=decide (3≤s.n)
def Pi.ok (s:Pi):Prop:=s.best≤↑ω∧s.n≤3
def mO (rate best:Nat):Bool:=decide (mulS best 5≤mulS rate 4)
def Pi.putB (s:Pi) (rate:Nat):Pi:=if mO rate s.best=true then ⟨rate,0⟩ else ⟨s.best,s.n + 1⟩
def Pi.put (s:Pi) (rate:Nat) (r l:Bool):Pi:=if s.full=true then s else if r=false then s else if l=true then s else s.putB rate
theorem Pi.put_ok {s:Pi} (h:s.ok) {rate:Nat} (hr:rate≤↑ω) (r l:Bool):(s.put rate r l).ok:=by
 unfold Pi.put;split
 ·exact h
 ·rename_i hf
  have hn:s.n < 3:=by unfold Pi.full at hf;simp at hf;omega
  split
  ·exact h
  ·split
   ·exact h
   ·unfold Pi.putB
    split
    ·exact ⟨hr,Nat.zero_le _⟩
    ·exact ⟨h.1,by dsimp;omega⟩
theorem NM (w:World):Calls prog 99 #[] w fun e w'=>e=.returned ↑(π w.heap.size)∧w.alloc (.cells Ct.zero.cells 251)=w':=by
 go_enter func99,ntmps99;go_wp2;go_ret;exact ⟨rfl,rfl⟩
structure IR (w:World) (b:Nat) (T:TypeId) (r:Value) (cs:Array Value) (e:Ending) (w':World):Prop where
 e:e=.returned r
 blk:Blk w' b T cs
 gr:w.grownBy w' (some b)
theorem CK (b x d:Nat) (s:Ct) (w:World) (h:Blk w b 251 s.cells) (hn:s.n < 18446744073709551615):
  Calls prog 220 #[↑(π b),↑x,↑d] w (IR w b 251 (.bool (s.ackB x)) (s.ackS x d).cells):=by
 have h0:=h.cell (i:=0) (v:=↑s.mark) rfl;have h1:=h.cell (i:=1) (v:=↑s.n) rfl;have f0:=h.free 0;have f1:=h.free 1;have HH:=lh h;clear h;obtain ⟨m,n⟩:=s;dsimp only at *
 by_cases c:m≤x
 ·have hc:decide (x < m)=false:=by simpa using c
  have HB:Hid (Ct.ackB ⟨m,n⟩ x=true):=lh (by simpa [Ct.ackB] using c);have HS:Hid (Ct.ackS ⟨m,n⟩ x d=⟨d,n + 1⟩):=lh (by unfold Ct.ackS;exact if_pos c);clear c;go_enter func220,ntmps220;go_wp2;go_ret;exact ⟨by rw [HB.out];rfl,by rw [HS.out];simpa [Ct.cells] using (HH.out.set 0 ↑d).set 1 (.int .u64 ((n:Int) + 1)),bI (bI (bS _ _) _ _) _ _⟩
 ·have hc:decide (x < m)=true:=by simpa using c
  have HB:Hid (Ct.ackB ⟨m,n⟩ x=false):=lh (by simpa [Ct.ackB] using c);have HS:Hid (Ct.ackS ⟨m,n⟩ x d=⟨m,n⟩):=lh (by unfold Ct.ackS;exact if_neg c);clear c;go_enter func220,ntmps220;go_wp2;go_ret;exact ⟨by rw [HB.out];rfl,by rw [HS.out];exact HH.out,bS _ _⟩
theorem CL (w:World):Calls prog 95 #[] w fun e w'=>e=.returned ↑(π w.heap.size)∧w.alloc (.cells Pi.zero.cells 243)=w':=by
 go_enter func95,ntmps95;go_wp2;go_ret;exact ⟨rfl,rfl⟩
theorem pV (b:Nat) (s:Pi) (w:World) (h:Blk w b 243 s.cells):
  Calls prog 221 #[↑(π b)] w fun e w'=>e=.returned (.bool s.full)∧w=w':=by
 have h1:=h.cell (i:=1) (v:=↑s.n) rfl;have hc:decide ((3:Int)≤(s.n:Int))=s.full:=by unfold Pi.full;exact decide_eq_decide.2 (by omega)
 clear h;generalize s.full=f at *;go_enter func221,ntmps221;go_wp2;go_ret;exact ⟨rfl,rfl⟩
theorem CM (x y:Nat) (w:World) (hx:x≤↑ω) (hy:y≤↑ω):
  Calls prog 222 #[↑x,↑y] w fun e w'=>e=.returned (.bool (mO x y))∧w=w':=by
 have H1:=lh (cB x 4 w hx (by decide));have H2:=lh (cB y 5 w hy (by decide));unfold mO;generalize mulS x 4=p at *;generalize mulS y 5=q at *;go_enter func222,ntmps222;go_wp2_with fail;refine (H1.out).mono ?_;rintro e w' ⟨rfl,rfl⟩;go_wp2_with fail;refine (H2.out).mono ?_;rintro e w' ⟨rfl,rfl⟩;go_wp2_with fail;go_ret;exact ⟨by simp,rfl⟩
theorem NN (b x:Nat) (r l:Bool) (s:Pi) (w:World) (h:Blk w b 243 s.cells) (hs:s.ok) (hx:x≤↑ω):
  Calls prog 172 #[↑(π b),↑x,.bool r,.bool l] w fun e w'=>e=.returned (.tuple #[])∧Blk w' b 243 (s.put x r l).cells∧w.grownBy w' (some b):=by
 have d0:=(h.drew).cell (i:=0) (v:=↑s.best) rfl;have d1:=(h.drew).cell (i:=1) (v:=↑s.n) rfl;have h0:=h.cell (i:=0) (v:=↑s.best) rfl;have h1:=h.cell (i:=1) (v:=↑s.n) rfl;have hn:=hs.2;have HG:=lh fun W=>CM x s.best W hx hs.1;have HH:=lh h;have HF:=lh fun n=>pV b s (w.drewN n) h;have HP:Hid (∀f,s.full=f→∀g,mO x s.best=g→s.put x r l=if f=true then s else if r=false then s else if l=true then s else if g=true then ⟨x,0⟩ else ⟨s.best,s.n + 1⟩):=lh fun f e g e'=>by unfold Pi.put Pi.putB;rw [e,e']
 have HP1:=lh (HP.out _ rfl _ rfl);generalize s.put x r l=s' at *;generalize s.full=f at *;generalize mO x s.best=g at *;clear HP h hs d0 d1;obtain ⟨y,n⟩:=s;dsimp only at *
 go_enter func172,ntmps172;go_wp2_with fail;go_quiet (fail)
 have Hq:=lh (HF.out nq);have Q:=lh (show Blk (w.drewN nq) b 243 (Pi.cells ⟨y,n⟩) from HH.out);have G:Hid (w.grownBy (w.drewN nq) (some b)):=lh (eX ((aB.below ⟨nq,rfl⟩ _)) _);have q0:=Q.out.cell (i:=0) (v:=↑y) rfl;have q1:=Q.out.cell (i:=1) (v:=↑n) rfl;have f0:=Q.out.free 0;have f1:=Q.out.free 1;generalize w.drewN nq=wq at *;clear h0 h1 HF HH;cases f with
 | true=>
   go_wp2_with fail;refine (Hq.out).mono ?_;rintro e w' ⟨rfl,rfl⟩;go_wp2_with fail;go_end0
   exact ⟨rfl,by rw [HP1.out];exact Q.out,G.out⟩
 | false=>
   go_wp2_with fail;refine (Hq.out).mono ?_;rintro e w' ⟨rfl,rfl⟩;cases r with
   | false=>
     go_wp2_with fail;go_end0
     exact ⟨rfl,by rw [HP1.out];exact Q.out,G.out⟩
   | true=>
     cases l with
     | true=>
       go_wp2_with fail;go_end0
       exact ⟨rfl,by rw [HP1.out];exact Q.out,G.out⟩
     | false=>
       go_wp2_with fail;refine (HG.out _).mono ?_;rintro e w' ⟨rfl,rfl⟩;cases g with
       | true=>
         go_wp2_with fail;go_end0
         exact ⟨rfl,by rw [HP1.out];simpa [Pi.cells] using (Q.out.set 0 ↑x).set 1 ↑ζ,bI (bI G.out _ _) _ _⟩
       | false=>
         go_wp2_with fail;go_end0
         exact ⟨rfl,by rw [HP1.out];simpa [Pi.cells] using (Q.out.set 0 ↑y).set 1 (.int .u64 ((n:Int) + 1)),bI (bI G.out _ _) _ _⟩
end Go.Proofs.YtjhiooggnpbecaaGreatDoor
