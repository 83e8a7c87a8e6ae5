/- 1 texts put together: what each one says stands ahead of it. -/
import Derived.Test.YteoepabmnbkabaaGreatDoorKS14
import Derived.BigRegion
import Derived.Deep.QuietTactic
import Derived.BigQuiet
set_option linter.unusedVariables false
namespace Go.Proofs.YteoepabmnbkabaaGreatDoor
open Go.RowKit Pl
structure Ct where
 mark:Nat
 n:Nat
def Ct.cells (s:Ct):Array Value:=#[.int .u64 (s.mark:Int),.int .u64 (s.n:Int)]
def Ct.zero:Ct:=⟨0,0⟩
def Ct.ackB (s:Ct) (x:Nat):Bool:=decide (s.mark≤x)
def Ct.ackS (s:Ct) (x d:Nat):Ct:=if s.mark≤x then ⟨d,s.n + 1⟩ else s
theorem Ct.ackS_n (s:Ct) (x d:Nat):(s.ackS x d).n≤s.n + 1:=by unfold Ct.ackS;split <;> simp
structure Pi where
 best:Nat
 n:Nat
def Pi.cells (s:Pi):Array Value:=#[.int .u64 (s.best:Int),.int .u64 (s.n:Int)]
def Pi.zero:Pi:=⟨0,0⟩
def Pi.full (s:Pi):Bool:=decide (3≤s.n)
def Pi.ok (s:Pi):Prop:=s.best≤18446744073709551615∧s.n≤3
def grownB (rate best:Nat):Bool:=decide (mulS best 5≤mulS rate 4)
def Pi.putB (s:Pi) (rate:Nat):Pi:=if grownB rate s.best=true then ⟨rate,0⟩ else ⟨s.best,s.n + 1⟩
def Pi.put (s:Pi) (rate:Nat) (r l:Bool):Pi:=if s.full=true then s else if r=false then s else if l=true then s else s.putB rate
theorem Pi.put_ok {s:Pi} (h:s.ok) {rate:Nat} (hr:rate≤18446744073709551615) (r l:Bool):(s.put rate r l).ok:=by
 unfold Pi.put
 split
 ·exact h
 ·rename_i hf
  have hn:s.n < 3:=by unfold Pi.full at hf;simp at hf;omega
  split
  ·exact h
  ·split
   ·exact h
   ·unfold Pi.putB
    split
    ·exact ⟨hr,Nat.zero_le _⟩
    ·exact ⟨h.1,by dsimp;omega⟩
theorem ct_New (w:World):Calls Tryz.prog 70 #[] w fun e w'=>e=.returned (.pointer (some ⟨w.heap.size,0,none⟩))∧w.alloc (.cells Ct.zero.cells 228)=w':=by
 go_enter Tryz.func70,Tryz.ntmps70
 go_wp2
 go_ret
 exact ⟨rfl,rfl⟩
structure OnePost (w:World) (b:Nat) (T:TypeId) (r:Value) (cs:Array Value) (e:Ending) (w':World):Prop where
 e:e=.returned r
 blk:Blk w' b T cs
 gr:w.grownBy w' (some b)
set_option maxHeartbeats 400000 in
theorem ct_Ack (b x d:Nat) (s:Ct) (w:World) (h:Blk w b 228 s.cells) (hn:s.n < 18446744073709551615):
  Calls Tryz.prog 236 #[.pointer (some ⟨b,0,none⟩),.int .u64 (x:Int),.int .u64 (d:Int)] w (OnePost w b 228 (.bool (s.ackB x)) (s.ackS x d).cells):=by
 have h0:=h.cell (i:=0) (v:=.int .u64 (s.mark:Int)) rfl
 have h1:=h.cell (i:=1) (v:=.int .u64 (s.n:Int)) rfl
 have f0:=h.free 0
 have f1:=h.free 1
 have HH:=Lib.hid h
 clear h
 obtain ⟨m,n⟩:=s
 dsimp only at *
 by_cases c:m≤x
 ·have hc:decide (x < m)=false:=by simpa using c
  have HB:Hid (Ct.ackB ⟨m,n⟩ x=true):=Lib.hid (by simpa [Ct.ackB] using c)
  have HS:Hid (Ct.ackS ⟨m,n⟩ x d=⟨d,n + 1⟩):=Lib.hid (by unfold Ct.ackS;exact if_pos c)
  clear c
  go_enter Tryz.func236,Tryz.ntmps236
  go_wp2
  go_ret
  exact ⟨by rw [HB.out];rfl,by rw [HS.out];simpa [Ct.cells] using (HH.out.set 0 (.int .u64 (d:Int))).set 1 (.int .u64 ((n:Int) + 1)),gr_set (gr_set (gr_refl _ _) _ _) _ _⟩
 ·have hc:decide (x < m)=true:=by simpa using c
  have HB:Hid (Ct.ackB ⟨m,n⟩ x=false):=Lib.hid (by simpa [Ct.ackB] using c)
  have HS:Hid (Ct.ackS ⟨m,n⟩ x d=⟨m,n⟩):=Lib.hid (by unfold Ct.ackS;exact if_neg c)
  clear c
  go_enter Tryz.func236,Tryz.ntmps236
  go_wp2
  go_ret
  exact ⟨by rw [HB.out];rfl,by rw [HS.out];exact HH.out,gr_refl _ _⟩
theorem pi_Empty (w:World):Calls Tryz.prog 66 #[] w fun e w'=>e=.returned (.pointer (some ⟨w.heap.size,0,none⟩))∧w.alloc (.cells Pi.zero.cells 222)=w':=by
 go_enter Tryz.func66,Tryz.ntmps66
 go_wp2
 go_ret
 exact ⟨rfl,rfl⟩
theorem pi_Full (b:Nat) (s:Pi) (w:World) (h:Blk w b 222 s.cells):
  Calls Tryz.prog 237 #[.pointer (some ⟨b,0,none⟩)] w fun e w'=>e=.returned (.bool s.full)∧w=w':=by
 have h1:=h.cell (i:=1) (v:=.int .u64 (s.n:Int)) rfl
 have hc:decide ((3:Int)≤(s.n:Int))=s.full:=by unfold Pi.full;exact decide_eq_decide.2 (by omega)
 clear h
 generalize s.full=f at *
 go_enter Tryz.func237,Tryz.ntmps237
 go_wp2
 go_ret
 exact ⟨rfl,rfl⟩
theorem ro_grown (x y:Nat) (w:World) (hx:x≤18446744073709551615) (hy:y≤18446744073709551615):
  Calls Tryz.prog 238 #[.int .u64 (x:Int),.int .u64 (y:Int)] w fun e w'=>e=.returned (.bool (grownB x y))∧w=w':=by
 have H1:=Lib.hid (fix_Mul_n x 4 w hx (by decide))
 have H2:=Lib.hid (fix_Mul_n y 5 w hy (by decide))
 unfold grownB
 generalize mulS x 4=p at *
 generalize mulS y 5=q at *
 go_enter Tryz.func238,Tryz.ntmps238
 go_wp2_with fail
 refine (H1.out).mono ?_
 rintro e w' ⟨rfl,rfl⟩
 go_wp2_with fail
 refine (H2.out).mono ?_
 rintro e w' ⟨rfl,rfl⟩
 go_wp2_with fail
 go_ret
 exact ⟨by simp,rfl⟩
set_option maxHeartbeats 1000000 in
theorem pi_Put (b x:Nat) (r l:Bool) (s:Pi) (w:World) (h:Blk w b 222 s.cells) (hs:s.ok) (hx:x≤18446744073709551615):
  Calls Tryz.prog 175 #[.pointer (some ⟨b,0,none⟩),.int .u64 (x:Int),.bool r,.bool l] w fun e w'=>e=.returned (.tuple #[])∧Blk w' b 222 (s.put x r l).cells∧w.grownBy w' (some b):=by
 have d0:=(h.drew).cell (i:=0) (v:=.int .u64 (s.best:Int)) rfl
 have d1:=(h.drew).cell (i:=1) (v:=.int .u64 (s.n:Int)) rfl
 have h0:=h.cell (i:=0) (v:=.int .u64 (s.best:Int)) rfl
 have h1:=h.cell (i:=1) (v:=.int .u64 (s.n:Int)) rfl
 have hn:=hs.2
 have HG:=Lib.hid fun W=>ro_grown x s.best W hx hs.1
 have HH:=Lib.hid h
 have HF:=Lib.hid fun n=>pi_Full b s (w.drewN n) h
 have HP:Hid (∀f,s.full=f→∀g,grownB x s.best=g→s.put x r l=if f=true then s else if r=false then s else if l=true then s else if g=true then ⟨x,0⟩ else ⟨s.best,s.n + 1⟩):=Lib.hid fun f e g e'=>by unfold Pi.put Pi.putB;rw [e,e']
 have HP1:=Lib.hid (HP.out _ rfl _ rfl)
 generalize s.put x r l=s' at *
 generalize s.full=f at *
 generalize grownB x s.best=g at *
 clear HP h hs d0 d1
 obtain ⟨y,n⟩:=s
 dsimp only at *
 go_enter Tryz.func175,Tryz.ntmps175
 go_wp2_with fail
 go_quiet (fail)
 have Hq:=Lib.hid (HF.out nq)
 have Q:=Lib.hid (show Blk (w.drewN nq) b 222 (Pi.cells ⟨y,n⟩) from HH.out)
 have G:Hid (w.grownBy (w.drewN nq) (some b)):=Lib.hid (gr_below ((Drawn.below ⟨nq,rfl⟩ _)) _)
 have q0:=Q.out.cell (i:=0) (v:=.int .u64 (y:Int)) rfl
 have q1:=Q.out.cell (i:=1) (v:=.int .u64 (n:Int)) rfl
 have f0:=Q.out.free 0
 have f1:=Q.out.free 1
 generalize w.drewN nq=wq at *
 clear h0 h1 HF HH
 cases f with
 | true=>
   go_wp2_with fail
   refine (Hq.out).mono ?_
   rintro e w' ⟨rfl,rfl⟩
   go_wp2_with fail
   go_end0
   exact ⟨rfl,by rw [HP1.out];exact Q.out,G.out⟩
 | false=>
   go_wp2_with fail
   refine (Hq.out).mono ?_
   rintro e w' ⟨rfl,rfl⟩
   cases r with
   | false=>
     go_wp2_with fail
     go_end0
     exact ⟨rfl,by rw [HP1.out];exact Q.out,G.out⟩
   | true=>
     cases l with
     | true=>
       go_wp2_with fail
       go_end0
       exact ⟨rfl,by rw [HP1.out];exact Q.out,G.out⟩
     | false=>
       go_wp2_with fail
       refine (HG.out _).mono ?_
       rintro e w' ⟨rfl,rfl⟩
       cases g with
       | true=>
         go_wp2_with fail
         go_end0
         exact ⟨rfl,by rw [HP1.out];simpa [Pi.cells] using (Q.out.set 0 (.int .u64 (x:Int))).set 1 (.int .u64 0),gr_set (gr_set G.out _ _) _ _⟩
       | false=>
         go_wp2_with fail
         go_end0
         exact ⟨rfl,by rw [HP1.out];simpa [Pi.cells] using (Q.out.set 0 (.int .u64 (y:Int))).set 1 (.int .u64 ((n:Int) + 1)),gr_set (gr_set G.out _ _) _ _⟩
end Go.Proofs.YteoepabmnbkabaaGreatDoor
