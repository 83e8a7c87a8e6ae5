/- 4 texts put together: what each one says stands ahead of it. -/
import Derived.Test.YtljganehlagnoaaKMeterChecks08
import Derived.Test.YtljganehlagnoaaKMeterChecks10
import Derived.Test.YtljganehlagnoaaKMeterChecks05
set_option linter.unusedVariables false
namespace Go.Proofs.Ytljganehlagnoaa
open Go.RowKit
theorem dr_Sub (x y:Nat) (w:World) (hx:x≤18446744073709551615):Calls Try.prog 22 #[.int .u64 (x:Int),.int .u64 (y:Int)] w fun e w'=>e=.returned (.int .u64 ((x - y:Nat):Int))∧w=w':=by
 by_cases c:x < y
 ·have d:decide (x < y)=true:=decide_eq_true c
  have e:x - y=0:=by omega
  rw [e]
  clear c hx
  go_enter Try.func22,Try.ntmps22
  go_wp2
  go_ret
  exact ⟨rfl,rfl⟩
 ·have d:decide (x < y)=false:=decide_eq_false c
  have e:IntKind.u64.wrap ((x:Int) - (y:Int))=((x - y:Nat):Int):=by rw [IntKind.wrap_u64];omega
  clear c hx
  go_enter Try.func22,Try.ntmps22
  go_wp2
  go_ret
  exact ⟨rfl,rfl⟩
theorem dr_Add (x y:Nat) (w:World) (h:x + y≤18446744073709551615):Calls Try.prog 27 #[.int .u64 (x:Int),.int .u64 (y:Int)] w fun e w'=>e=.returned (.int .u64 ((x + y:Nat):Int))∧w=w':=by
 have:=ref_Add x y w (by omega) (by omega)
 have e:Pl.addS x y=x + y:=by unfold Pl.addS;omega
 rw [e] at this
 exact this
theorem dr_grows (x y:Nat) (w:World) (hy:y≤18446744073709551615):Calls Try.prog 26 #[.int .u64 (x:Int),.int .u64 (y:Int)] w fun e w'=>e=.returned (.bool (up1 x y))∧w=w':=by
 by_cases c:x≤y
 ·have HE:Hid (up1 x y=decide (y - x≤1099511627776)):=Lib.hid (by unfold up1;rw [decide_eq_true c];rfl)
  obtain ⟨f,hf⟩:∃f,f=y - x:=⟨_,rfl⟩
  rw [← hf] at HE
  have d0:decide ((x:Int)≤(y:Int))=true:=decide_eq_true (by omega)
  have d1:(y:Int) - (x:Int)=(f:Int):=by omega
  have d2:IntKind.u64.wrap (f:Int)=(f:Int):=by rw [IntKind.wrap_u64];omega
  have d3:decide ((f:Int)≤1099511627776)=decide (f≤1099511627776):=by apply decide_eq_decide.2;omega
  clear hf hy
  go_enter Try.func26,Try.ntmps26
  go_wp2_with fail
  go_ret
  exact ⟨by rw [HE.out,← d3];rfl,rfl⟩
 ·have HE:Hid (up1 x y=false):=Lib.hid (by unfold up1;rw [decide_eq_false c];rfl)
  clear hy
  go_enter Try.func26,Try.ntmps26
  go_wp2_with fail
  go_ret
  exact ⟨by rw [HE.out];rfl,rfl⟩
set_option maxRecDepth 100000 in
set_option maxHeartbeats 2000000 in
theorem dr_Clause (room:Nat) (a r:Rw) (W:World) (hr:r.le 18446744073709551615) (ha:a.le 1125899906842624):Calls Try.prog 20 #[.int .u64 (room:Int),a.agg,r.agg] W fun e w'=>e=.returned (.int .i64 (clauseR room a r:Int))∧Below W.heap.size W w':=by
 have HR:=Lib.hid hr
 have HA:=Lib.hid ha
 have HGg:=Lib.hid (fun w=>dr_grows a.g r.g w hr.1)
 have HGc:=Lib.hid (fun w=>dr_grows a.c r.c w hr.2.1)
 have HGd:=Lib.hid (fun w=>dr_grows a.d r.d w hr.2.2.1)
 have HGs:=Lib.hid (fun w=>dr_grows a.s r.s w hr.2.2.2.1)
 have HGw:=Lib.hid (fun w=>dr_grows a.w r.w w hr.2.2.2.2)
 have A0:=Blk.alloc (Blk.new W 55 a.cells) (.cells r.cells 55)
 have A1:=Blk.new1 W (.cells a.cells 55) 55 r.cells
 have BB:=Lib.hid (al_be2 W (.cells a.cells 55) (.cells r.cells 55))
 unfold Rw.cells at A0 A1 BB
 unfold Rw.agg
 have a0:=A0.cell (i:=0) (v:=.int .u64 (a.g:Int)) rfl
 have r0:=A1.cell (i:=0) (v:=.int .u64 (r.g:Int)) rfl
 have a1:=A0.cell (i:=1) (v:=.int .u64 (a.c:Int)) rfl
 have r1:=A1.cell (i:=1) (v:=.int .u64 (r.c:Int)) rfl
 have a2:=A0.cell (i:=2) (v:=.int .u64 (a.d:Int)) rfl
 have r2:=A1.cell (i:=2) (v:=.int .u64 (r.d:Int)) rfl
 have a3:=A0.cell (i:=3) (v:=.int .u64 (a.s:Int)) rfl
 have r3:=A1.cell (i:=3) (v:=.int .u64 (r.s:Int)) rfl
 have a4:=A0.cell (i:=4) (v:=.int .u64 (a.w:Int)) rfl
 have r4:=A1.cell (i:=4) (v:=.int .u64 (r.w:Int)) rfl
 clear hr ha A0 A1
 go_enter Try.func20,Try.ntmps20
 go_wp2_with fail
 generalize (W.alloc (.cells #[.int .u64 (a.g:Int),.int .u64 (a.c:Int),.int .u64 (a.d:Int),.int .u64 (a.s:Int),.int .u64 (a.w:Int)] 55)).alloc (.cells #[.int .u64 (r.g:Int),.int .u64 (r.c:Int),.int .u64 (r.d:Int),.int .u64 (r.s:Int),.int .u64 (r.w:Int)] 55)=w1 at *
 refine (HGg.out _).mono ?_
 rintro e w ⟨rfl,rfl⟩
 cases hg:up1 a.g r.g with
 | false=>
   have HE:Hid (clauseR room a r=1):=Lib.hid (by unfold clauseR;rw [falls_stop (k:=0) hg];rfl)
   clear hg
   go_wp2_with fail
   go_ret
   exact ⟨by rw [HE.out];rfl,BB.out⟩
 | true=>
 have Hg:=Lib.hid hg
 clear hg
 go_wp2_with fail
 refine (HGc.out _).mono ?_
 rintro e w ⟨rfl,rfl⟩
 cases hc:up1 a.c r.c with
 | false=>
   have HE:Hid (clauseR room a r=1):=Lib.hid (by unfold clauseR;rw [falls_stop (k:=1) hc];rfl)
   clear hc
   go_wp2_with fail
   go_ret
   exact ⟨by rw [HE.out];rfl,BB.out⟩
 | true=>
 have Hc:=Lib.hid hc
 clear hc
 go_wp2_with fail
 refine (HGd.out _).mono ?_
 rintro e w ⟨rfl,rfl⟩
 cases hd:up1 a.d r.d with
 | false=>
   have HE:Hid (clauseR room a r=1):=Lib.hid (by unfold clauseR;rw [falls_stop (k:=2) hd];rfl)
   clear hd
   go_wp2_with fail
   go_ret
   exact ⟨by rw [HE.out];rfl,BB.out⟩
 | true=>
 have Hd:=Lib.hid hd
 clear hd
 go_wp2_with fail
 refine (HGs.out _).mono ?_
 rintro e w ⟨rfl,rfl⟩
 cases hs:up1 a.s r.s with
 | false=>
   have HE:Hid (clauseR room a r=1):=Lib.hid (by unfold clauseR;rw [falls_stop (k:=3) hs];rfl)
   clear hs
   go_wp2_with fail
   go_ret
   exact ⟨by rw [HE.out];rfl,BB.out⟩
 | true=>
 have Hs:=Lib.hid hs
 clear hs
 go_wp2_with fail
 refine (HGw.out _).mono ?_
 rintro e w ⟨rfl,rfl⟩
 cases hw:up1 a.w r.w with
 | false=>
   have HE:Hid (clauseR room a r=1):=Lib.hid (by unfold clauseR;rw [falls_stop (k:=4) hw];rfl)
   clear hw
   go_wp2_with fail
   go_ret
   exact ⟨by rw [HE.out];rfl,BB.out⟩
 | true=>
 have Hw:=Lib.hid hw
 clear hw
 have hF:fallsR a r=false:=by unfold fallsR;rw [Hg.out,Hc.out,Hd.out,Hs.out,Hw.out];rfl
 have hS:=falls_le hF HA.out
 have HF:=Lib.hid hF
 obtain ⟨s0,s1,s2,s3,s4⟩:=hS
 obtain ⟨t0,t1,t2,t3,t4⟩:=HA.out
 obtain ⟨o1,ho1⟩:∃n,n=r.d + a.s:=⟨_,rfl⟩
 obtain ⟨us,hus⟩:∃n,n=r.s + r.w:=⟨_,rfl⟩
 obtain ⟨so,hso⟩:∃n,n=r.s + r.d:=⟨_,rfl⟩
 have HA1:=Lib.hid (fun w=>dr_Add r.d a.s w (by omega))
 have HA2:=Lib.hid (fun w=>dr_Add r.s r.w w (by omega))
 have HA3:=Lib.hid (fun w=>(dr_Add r.s r.d w (by omega)).mono fun e w' q=>(⟨q.1,q.2.symm⟩:e=_∧w'=w))
 rw [← ho1] at HA1
 rw [← hus] at HA2
 rw [← hso] at HA3
 obtain ⟨f,hf⟩:∃n,n=r.c - o1:=⟨_,rfl⟩
 have HL:Hid ((o1=r.d + a.s∧us=r.s + r.w)∧so=r.s + r.d∧f=r.c - o1∧r.c≤1126999418470400):=Lib.hid ⟨⟨ho1,hus⟩,hso,hf,s1⟩
 clear ho1 hus hso hf s0 s1 s2 s3 s4 t0 t1 t2 t3 t4 hF HGg HGc HGd HGs HGw Hg Hc Hd Hs Hw
 go_wp2_with fail
 refine (HA1.out _).mono ?_
 rintro e w ⟨rfl,rfl⟩
 clear HA1
 by_cases c1:r.c < o1
 ·have HE:Hid (clauseR room a r=2):=Lib.hid (by
   obtain ⟨⟨e1,e2⟩,e3,e4,e5⟩:=HL.out
   unfold clauseR;rw [HF.out,show roomR room a r=true by unfold roomR;rw [decide_eq_true (by omega)];rfl];rfl)
  go_wp2_with fail
  go_ret
  exact ⟨by rw [HE.out];rfl,BB.out⟩
 have d1:(r.c:Int) - (o1:Int)=(f:Int):=by obtain ⟨⟨e1,e2⟩,e3,e4,e5⟩:=HL.out;omega
 have d2:IntKind.u64.wrap (f:Int)=(f:Int):=by rw [IntKind.wrap_u64];obtain ⟨⟨e1,e2⟩,e3,e4,e5⟩:=HL.out;omega
 have HC1:=Lib.hid c1
 by_cases c2:room < f
 ·have HE:Hid (clauseR room a r=2):=Lib.hid (by
   obtain ⟨⟨e1,e2⟩,e3,e4,e5⟩:=HL.out
   unfold clauseR;rw [HF.out,show roomR room a r=true by unfold roomR;rw [Bool.or_eq_true];right;exact decide_eq_true (by omega)];rfl)
  go_wp2_with fail
  go_ret
  exact ⟨by rw [HE.out];rfl,BB.out⟩
 have HRm:Hid (roomR room a r=false):=Lib.hid (by
  obtain ⟨⟨e1,e2⟩,e3,e4,e5⟩:=HL.out
  have:=HC1.out
  unfold roomR;rw [decide_eq_false (by omega),decide_eq_false (by omega)];rfl)
 by_cases c3:a.d < r.d
 ·by_cases c3b:f < room
  ·have HE:Hid (clauseR room a r=3):=Lib.hid (by
    obtain ⟨⟨e1,e2⟩,e3,e4,e5⟩:=HL.out
    have:=HC1.out
    unfold clauseR;rw [HF.out,HRm.out,show dropR room a r=true by unfold dropR;rw [decide_eq_true (by omega),decide_eq_true (by omega)];rfl];rfl)
   go_wp2_with fail
   go_ret
   exact ⟨by rw [HE.out];rfl,BB.out⟩
  ·have HDr:Hid (dropR room a r=false):=Lib.hid (by
    obtain ⟨⟨e1,e2⟩,e3,e4,e5⟩:=HL.out
    have:=HC1.out
    unfold dropR;rw [decide_eq_false (show ¬ r.c - r.d - a.s < room by omega),Bool.and_false])
   go_wp2_with fail
   refine (HA2.out _).mono ?_
   rintro e w ⟨rfl,rfl⟩
   clear HA2
   by_cases c4:r.c < so
   ·have HE:Hid (clauseR room a r=4):=Lib.hid (by
     obtain ⟨⟨e1,e2⟩,e3,e4,e5⟩:=HL.out
     have:=HC1.out
     unfold clauseR;rw [HF.out,HRm.out,HDr.out,show serveR r=true by unfold serveR;rw [decide_eq_true (by omega)];rfl];rfl)
    go_wp2_with fail
    go_quiet (with_reducible exact Calls.quiet_of_same (HA3.out _))
    go_wp2_with fail
    go_ret
    exact ⟨by rw [HE.out];rfl,BB.out.trans (Drawn.below ⟨_,rfl⟩ _)⟩
   by_cases c5:r.g < us
   ·have HE:Hid (clauseR room a r=4):=Lib.hid (by
     obtain ⟨⟨e1,e2⟩,e3,e4,e5⟩:=HL.out
     have:=HC1.out
     unfold clauseR;rw [HF.out,HRm.out,HDr.out,show serveR r=true by unfold serveR;rw [Bool.or_eq_true];right;exact decide_eq_true (by omega)];rfl)
    go_wp2_with fail
    go_quiet (with_reducible exact Calls.quiet_of_same (HA3.out _))
    go_wp2_with fail
    go_ret
    exact ⟨by rw [HE.out];rfl,BB.out.trans (Drawn.below ⟨_,rfl⟩ _)⟩
   have HSv:Hid (serveR r=false):=Lib.hid (by
    have:=c4
    obtain ⟨⟨e1,e2⟩,e3,e4,e5⟩:=HL.out
    have:=HC1.out
    unfold serveR;rw [decide_eq_false (by omega),decide_eq_false (by omega)];rfl)
   by_cases c6:so < r.c
   ·by_cases c7:us < r.g
    ·have HE:Hid (clauseR room a r=5):=Lib.hid (by
      have:=c4
      obtain ⟨⟨e1,e2⟩,e3,e4,e5⟩:=HL.out
      have:=HC1.out
      unfold clauseR;rw [HF.out,HRm.out,HDr.out,HSv.out,show idleR a r=true by unfold idleR;rw [decide_eq_true (by omega),decide_eq_true (by omega)];rfl];rfl)
     go_wp2_with fail
     go_quiet (with_reducible exact Calls.quiet_of_same (HA3.out _))
     have HD:Hid (Drawn w1 (w1.drewN nq)):=Lib.hid ⟨nq,rfl⟩
     have v0:=(HD.out.cell _).trans r0
     have v1:=(HD.out.cell _).trans r1
     have v2:=(HD.out.cell _).trans r2
     have v3:=(HD.out.cell _).trans r3
     have v4:=(HD.out.cell _).trans r4
     have v5:=(HD.out.cell _).trans a4
     have BD:=Lib.hid (BB.out.trans (HD.out.below _))
     clear r0 r1 r2 r3 r4 a0 a1 a2 a3 a4 HD BB
     generalize w1.drewN nq=w6 at *
     go_wp2_with fail
     go_quiet (with_reducible exact Calls.quiet_of_same (HA3.out _))
     go_wp2_with fail
     go_ret
     exact ⟨by rw [HE.out];rfl,BD.out.trans (Drawn.below ⟨_,rfl⟩ _)⟩
    ·by_cases c8:a.w < r.w
     ·have HE:Hid (clauseR room a r=5):=Lib.hid (by
       have:=c4
       obtain ⟨⟨e1,e2⟩,e3,e4,e5⟩:=HL.out
       have:=HC1.out
       unfold clauseR;rw [HF.out,HRm.out,HDr.out,HSv.out,show idleR a r=true by unfold idleR;rw [decide_eq_true (by omega),decide_eq_false (by omega),decide_eq_true c8];rfl];rfl)
      go_wp2_with fail
      go_quiet (with_reducible exact Calls.quiet_of_same (HA3.out _))
      have HD:Hid (Drawn w1 (w1.drewN nq)):=Lib.hid ⟨nq,rfl⟩
      have v0:=(HD.out.cell _).trans r0
      have v1:=(HD.out.cell _).trans r1
      have v2:=(HD.out.cell _).trans r2
      have v3:=(HD.out.cell _).trans r3
      have v4:=(HD.out.cell _).trans r4
      have v5:=(HD.out.cell _).trans a4
      have BD:=Lib.hid (BB.out.trans (HD.out.below _))
      clear r0 r1 r2 r3 r4 a0 a1 a2 a3 a4 HD BB
      generalize w1.drewN nq=w6 at *
      go_wp2_with fail
      go_quiet (with_reducible exact Calls.quiet_of_same (HA3.out _))
      go_wp2_with fail
      go_ret
      exact ⟨by rw [HE.out];rfl,BD.out.trans (Drawn.below ⟨_,rfl⟩ _)⟩
     ·have HE:Hid (clauseR room a r=0):=Lib.hid (by
       have:=c4
       obtain ⟨⟨e1,e2⟩,e3,e4,e5⟩:=HL.out
       have:=HC1.out
       unfold clauseR;rw [HF.out,HRm.out,HDr.out,HSv.out,show idleR a r=false by unfold idleR;rw [decide_eq_true (by omega),decide_eq_false (by omega),decide_eq_false c8];rfl];rfl)
      go_wp2_with fail
      go_quiet (with_reducible exact Calls.quiet_of_same (HA3.out _))
      have HD:Hid (Drawn w1 (w1.drewN nq)):=Lib.hid ⟨nq,rfl⟩
      have v0:=(HD.out.cell _).trans r0
      have v1:=(HD.out.cell _).trans r1
      have v2:=(HD.out.cell _).trans r2
      have v3:=(HD.out.cell _).trans r3
      have v4:=(HD.out.cell _).trans r4
      have v5:=(HD.out.cell _).trans a4
      have BD:=Lib.hid (BB.out.trans (HD.out.below _))
      clear r0 r1 r2 r3 r4 a0 a1 a2 a3 a4 HD BB
      generalize w1.drewN nq=w6 at *
      go_wp2_with fail
      go_quiet (with_reducible exact Calls.quiet_of_same (HA3.out _))
      go_wp2_with fail
      go_ret
      exact ⟨by rw [HE.out];rfl,BD.out.trans (Drawn.below ⟨_,rfl⟩ _)⟩
   ·have HE:Hid (clauseR room a r=0):=Lib.hid (by
     have:=c4
     obtain ⟨⟨e1,e2⟩,e3,e4,e5⟩:=HL.out
     have:=HC1.out
     unfold clauseR;rw [HF.out,HRm.out,HDr.out,HSv.out,show idleR a r=false by unfold idleR;rw [decide_eq_false (by omega)];rfl];rfl)
    go_wp2_with fail
    go_quiet (with_reducible exact Calls.quiet_of_same (HA3.out _))
    have HD:Hid (Drawn w1 (w1.drewN nq)):=Lib.hid ⟨nq,rfl⟩
    have v0:=(HD.out.cell _).trans r0
    have v1:=(HD.out.cell _).trans r1
    have v2:=(HD.out.cell _).trans r2
    have v3:=(HD.out.cell _).trans r3
    have v4:=(HD.out.cell _).trans r4
    have v5:=(HD.out.cell _).trans a4
    have BD:=Lib.hid (BB.out.trans (HD.out.below _))
    clear r0 r1 r2 r3 r4 a0 a1 a2 a3 a4 HD BB
    generalize w1.drewN nq=w6 at *
    go_wp2_with fail
    go_quiet (with_reducible exact Calls.quiet_of_same (HA3.out _))
    go_wp2_with fail
    go_ret
    exact ⟨by rw [HE.out];rfl,BD.out.trans (Drawn.below ⟨_,rfl⟩ _)⟩
 ·have HDr:Hid (dropR room a r=false):=Lib.hid (by unfold dropR;rw [decide_eq_false c3];rfl)
  go_wp2_with fail
  refine (HA2.out _).mono ?_
  rintro e w ⟨rfl,rfl⟩
  clear HA2
  by_cases c4:r.c < so
  ·have HE:Hid (clauseR room a r=4):=Lib.hid (by
    obtain ⟨⟨e1,e2⟩,e3,e4,e5⟩:=HL.out
    have:=HC1.out
    unfold clauseR;rw [HF.out,HRm.out,HDr.out,show serveR r=true by unfold serveR;rw [decide_eq_true (by omega)];rfl];rfl)
   go_wp2_with fail
   go_quiet (with_reducible exact Calls.quiet_of_same (HA3.out _))
   go_wp2_with fail
   go_ret
   exact ⟨by rw [HE.out];rfl,BB.out.trans (Drawn.below ⟨_,rfl⟩ _)⟩
  by_cases c5:r.g < us
  ·have HE:Hid (clauseR room a r=4):=Lib.hid (by
    obtain ⟨⟨e1,e2⟩,e3,e4,e5⟩:=HL.out
    have:=HC1.out
    unfold clauseR;rw [HF.out,HRm.out,HDr.out,show serveR r=true by unfold serveR;rw [Bool.or_eq_true];right;exact decide_eq_true (by omega)];rfl)
   go_wp2_with fail
   go_quiet (with_reducible exact Calls.quiet_of_same (HA3.out _))
   go_wp2_with fail
   go_ret
   exact ⟨by rw [HE.out];rfl,BB.out.trans (Drawn.below ⟨_,rfl⟩ _)⟩
  have HSv:Hid (serveR r=false):=Lib.hid (by
   have:=c4
   obtain ⟨⟨e1,e2⟩,e3,e4,e5⟩:=HL.out
   have:=HC1.out
   unfold serveR;rw [decide_eq_false (by omega),decide_eq_false (by omega)];rfl)
  by_cases c6:so < r.c
  ·by_cases c7:us < r.g
   ·have HE:Hid (clauseR room a r=5):=Lib.hid (by
     have:=c4
     obtain ⟨⟨e1,e2⟩,e3,e4,e5⟩:=HL.out
     have:=HC1.out
     unfold clauseR;rw [HF.out,HRm.out,HDr.out,HSv.out,show idleR a r=true by unfold idleR;rw [decide_eq_true (by omega),decide_eq_true (by omega)];rfl];rfl)
    go_wp2_with fail
    go_quiet (with_reducible exact Calls.quiet_of_same (HA3.out _))
    have HD:Hid (Drawn w1 (w1.drewN nq)):=Lib.hid ⟨nq,rfl⟩
    have v0:=(HD.out.cell _).trans r0
    have v1:=(HD.out.cell _).trans r1
    have v2:=(HD.out.cell _).trans r2
    have v3:=(HD.out.cell _).trans r3
    have v4:=(HD.out.cell _).trans r4
    have v5:=(HD.out.cell _).trans a4
    have BD:=Lib.hid (BB.out.trans (HD.out.below _))
    clear r0 r1 r2 r3 r4 a0 a1 a2 a3 a4 HD BB
    generalize w1.drewN nq=w6 at *
    go_wp2_with fail
    go_quiet (with_reducible exact Calls.quiet_of_same (HA3.out _))
    go_wp2_with fail
    go_ret
    exact ⟨by rw [HE.out];rfl,BD.out.trans (Drawn.below ⟨_,rfl⟩ _)⟩
   ·by_cases c8:a.w < r.w
    ·have HE:Hid (clauseR room a r=5):=Lib.hid (by
      have:=c4
      obtain ⟨⟨e1,e2⟩,e3,e4,e5⟩:=HL.out
      have:=HC1.out
      unfold clauseR;rw [HF.out,HRm.out,HDr.out,HSv.out,show idleR a r=true by unfold idleR;rw [decide_eq_true (by omega),decide_eq_false (by omega),decide_eq_true c8];rfl];rfl)
     go_wp2_with fail
     go_quiet (with_reducible exact Calls.quiet_of_same (HA3.out _))
     have HD:Hid (Drawn w1 (w1.drewN nq)):=Lib.hid ⟨nq,rfl⟩
     have v0:=(HD.out.cell _).trans r0
     have v1:=(HD.out.cell _).trans r1
     have v2:=(HD.out.cell _).trans r2
     have v3:=(HD.out.cell _).trans r3
     have v4:=(HD.out.cell _).trans r4
     have v5:=(HD.out.cell _).trans a4
     have BD:=Lib.hid (BB.out.trans (HD.out.below _))
     clear r0 r1 r2 r3 r4 a0 a1 a2 a3 a4 HD BB
     generalize w1.drewN nq=w6 at *
     go_wp2_with fail
     go_quiet (with_reducible exact Calls.quiet_of_same (HA3.out _))
     go_wp2_with fail
     go_ret
     exact ⟨by rw [HE.out];rfl,BD.out.trans (Drawn.below ⟨_,rfl⟩ _)⟩
    ·have HE:Hid (clauseR room a r=0):=Lib.hid (by
      have:=c4
      obtain ⟨⟨e1,e2⟩,e3,e4,e5⟩:=HL.out
      have:=HC1.out
      unfold clauseR;rw [HF.out,HRm.out,HDr.out,HSv.out,show idleR a r=false by unfold idleR;rw [decide_eq_true (by omega),decide_eq_false (by omega),decide_eq_false c8];rfl];rfl)
     go_wp2_with fail
     go_quiet (with_reducible exact Calls.quiet_of_same (HA3.out _))
     have HD:Hid (Drawn w1 (w1.drewN nq)):=Lib.hid ⟨nq,rfl⟩
     have v0:=(HD.out.cell _).trans r0
     have v1:=(HD.out.cell _).trans r1
     have v2:=(HD.out.cell _).trans r2
     have v3:=(HD.out.cell _).trans r3
     have v4:=(HD.out.cell _).trans r4
     have v5:=(HD.out.cell _).trans a4
     have BD:=Lib.hid (BB.out.trans (HD.out.below _))
     clear r0 r1 r2 r3 r4 a0 a1 a2 a3 a4 HD BB
     generalize w1.drewN nq=w6 at *
     go_wp2_with fail
     go_quiet (with_reducible exact Calls.quiet_of_same (HA3.out _))
     go_wp2_with fail
     go_ret
     exact ⟨by rw [HE.out];rfl,BD.out.trans (Drawn.below ⟨_,rfl⟩ _)⟩
  ·have HE:Hid (clauseR room a r=0):=Lib.hid (by
    have:=c4
    obtain ⟨⟨e1,e2⟩,e3,e4,e5⟩:=HL.out
    have:=HC1.out
    unfold clauseR;rw [HF.out,HRm.out,HDr.out,HSv.out,show idleR a r=false by unfold idleR;rw [decide_eq_false (by omega)];rfl];rfl)
   go_wp2_with fail
   go_quiet (with_reducible exact Calls.quiet_of_same (HA3.out _))
   have HD:Hid (Drawn w1 (w1.drewN nq)):=Lib.hid ⟨nq,rfl⟩
   have v0:=(HD.out.cell _).trans r0
   have v1:=(HD.out.cell _).trans r1
   have v2:=(HD.out.cell _).trans r2
   have v3:=(HD.out.cell _).trans r3
   have v4:=(HD.out.cell _).trans r4
   have v5:=(HD.out.cell _).trans a4
   have BD:=Lib.hid (BB.out.trans (HD.out.below _))
   clear r0 r1 r2 r3 r4 a0 a1 a2 a3 a4 HD BB
   generalize w1.drewN nq=w6 at *
   go_wp2_with fail
   go_quiet (with_reducible exact Calls.quiet_of_same (HA3.out _))
   go_wp2_with fail
   go_ret
   exact ⟨by rw [HE.out];rfl,BD.out.trans (Drawn.below ⟨_,rfl⟩ _)⟩
end Go.Proofs.Ytljganehlagnoaa

set_option linter.unusedVariables false
namespace Go.Proofs.Ytljganehlagnoaa
open Go.RowKit
set_option maxRecDepth 100000 in
set_option maxHeartbeats 1000000 in
theorem dr_Check (room:Nat) (l:List Rw) (ao:Option Addr) (cap:Nat) (W:World) (hi:Its W ao l) (hl:l.length≤200) (hb:∀t∈l,t.le 18446744073709551615):
  Calls Try.prog 14 #[.int .u64 (room:Int),.slice ao l.length cap] W fun e w'=>e=.returned (.tuple #[.int .i64 ((chkR room l).1:Int),.int .i64 ((chkR room l).2:Int)])∧Below W.heap.size W w':=by
 have dl:decide ((65536:Int) < (l.length:Int))=false:=decide_eq_false (by omega)
 by_cases hr:room≤72057594037927936
 case neg=>
  have HE:Hid (chkR room l=(0,1)):=Lib.hid (if_neg hr)
  have dr:decide ((72057594037927936:Int) < (room:Int))=true:=decide_eq_true (by omega)
  clear hr
  go_enter Try.func14,Try.ntmps14
  go_wp2_with fail
  go_ret2
  exact ⟨by rw [HE.out];rfl,Below.refl _ _⟩
 have dr:decide ((72057594037927936:Int) < (room:Int))=false:=decide_eq_false (by omega)
 have HC:Hid (chkR room l=checkR room Rw.z 0 l):=Lib.hid (if_pos hr)
 have HN:Hid (ChkI 55 W W.heap.size room l 0 (W.alloc (.cells #[.int .u64 0,.int .u64 0,.int .u64 0,.int .u64 0,.int .u64 0] 55))):=Lib.hid ⟨Blk.new W _ _,al_be _ _,Nat.le_refl _,trivial,⟨by simp [lastW,Rw.z],by simp [lastW,Rw.z],by simp [lastW,Rw.z],by simp [lastW,Rw.z],by simp [lastW,Rw.z]⟩⟩
 have HI:=Lib.hid hi
 have HB:=Lib.hid hb
 clear hi hb hr
 go_enter Try.func14,Try.ntmps14
 go_wp2_with fail
 go_loopw [7] (fun i wr=>∃k:Nat,i=.int .i64 (k:Int)∧k≤l.length∧Hid (ChkI 55 W W.heap.size room l k wr)) (fun i _=>l.length - (intOf i).toNat)
 case atStart=>exact ⟨0,rfl,Nat.zero_le _,HN⟩
 case round=>
  obtain ⟨k,rfl,hk,H⟩:=hrel
  clear HN
  by_cases hlt:k < l.length
  ·obtain ⟨b,off,rfl,hbl,hc⟩:=its_rw HI.out (by omega)
   obtain ⟨x,hx⟩:∃x,x=l.getD k Itm.z:=⟨_,rfl⟩
   obtain ⟨c0,c1,c2,c3,c4⟩:=hc k hlt x hx
   have HX:=Lib.hid hx
   have HL:=Lib.hid hlt
   have i0':(0:Int)≤(k:Int):=by omega
   have i1:(k:Int) < (l.length:Int):=by omega
   obtain ⟨ah,hah⟩:∃r,r=lastW Rw.z (l.take k):=⟨_,rfl⟩
   have HA:=Lib.hid hah
   have HCl:Hid (∀w,Hid (ChkI 55 W W.heap.size room l k w)→Calls Try.prog 20 #[.int .u64 (room:Int),ah.agg,x.agg] w fun e w'=>e=.returned (.int .i64 (clauseR room ah x:Int))∧Hid (ChkI 55 W W.heap.size room l k w')):=
    Lib.hid (fun w h=>(dr_Clause room ah x w (HB.out x (mem_getD hlt hx)) (by rw [hah];exact h.out.le.mono (by omega))).mono fun e w' q=>⟨q.1,Lib.hid (h.out.to q.2)⟩)
   have a0:∀w,Hid (ChkI 55 W W.heap.size room l k w)→w.cell? ⟨b,off + k * 5,none⟩=some (.int .u64 (x.g:Int)):=fun w h=>(h.out.bel.cell (p:=⟨b,_,none⟩) hbl).trans c0
   have a1:∀w,Hid (ChkI 55 W W.heap.size room l k w)→w.cell? ⟨b,off + k * 5 + 1,none⟩=some (.int .u64 (x.c:Int)):=fun w h=>(h.out.bel.cell (p:=⟨b,_,none⟩) hbl).trans c1
   have a2:∀w,Hid (ChkI 55 W W.heap.size room l k w)→w.cell? ⟨b,off + k * 5 + 2,none⟩=some (.int .u64 (x.d:Int)):=fun w h=>(h.out.bel.cell (p:=⟨b,_,none⟩) hbl).trans c2
   have a3:∀w,Hid (ChkI 55 W W.heap.size room l k w)→w.cell? ⟨b,off + k * 5 + 3,none⟩=some (.int .u64 (x.s:Int)):=fun w h=>(h.out.bel.cell (p:=⟨b,_,none⟩) hbl).trans c3
   have a4:∀w,Hid (ChkI 55 W W.heap.size room l k w)→w.cell? ⟨b,off + k * 5 + 4,none⟩=some (.int .u64 (x.w:Int)):=fun w h=>(h.out.bel.cell (p:=⟨b,_,none⟩) hbl).trans c4
   have q0:∀w,Hid (ChkI 55 W W.heap.size room l k w)→w.cell? ⟨W.heap.size,0,none⟩=some (.int .u64 (ah.g:Int)):=fun w h=>by have:=h.out.at_;rw [← hah] at this;exact this.cell rfl
   have q1:∀w,Hid (ChkI 55 W W.heap.size room l k w)→w.cell? ⟨W.heap.size,1,none⟩=some (.int .u64 (ah.c:Int)):=fun w h=>by have:=h.out.at_;rw [← hah] at this;exact this.cell rfl
   have q2:∀w,Hid (ChkI 55 W W.heap.size room l k w)→w.cell? ⟨W.heap.size,2,none⟩=some (.int .u64 (ah.d:Int)):=fun w h=>by have:=h.out.at_;rw [← hah] at this;exact this.cell rfl
   have q3:∀w,Hid (ChkI 55 W W.heap.size room l k w)→w.cell? ⟨W.heap.size,3,none⟩=some (.int .u64 (ah.s:Int)):=fun w h=>by have:=h.out.at_;rw [← hah] at this;exact this.cell rfl
   have q4:∀w,Hid (ChkI 55 W W.heap.size room l k w)→w.cell? ⟨W.heap.size,4,none⟩=some (.int .u64 (ah.w:Int)):=fun w h=>by have:=h.out.at_;rw [← hah] at this;exact this.cell rfl
   have M0:Hid (ChkI 55 W W.heap.size room l k wr.drew):=Lib.hid (H.out.to ((Drawn.drew _).below _))
   clear hc hx hah H
   unfold Rw.agg at HCl
   obtain ⟨cn,hcn⟩:∃c,c=clauseR room ah x:=⟨_,rfl⟩
   have HCn:=Lib.hid hcn
   rw [← hcn] at HCl
   clear hcn
   go_wp2_with fail
   refine wp_region_chain (S:=(fun w'=>Hid (ChkI 55 W W.heap.size room l k w'))) 7 (by kernel_rfl) (by kernel_rfl) (by kernel_rfl) M0 ?_
   generalize wr.drew=wd at *
   simp only [List.size_toArray,List.length_cons,List.length_nil,Nat.reduceAdd,Array.replicate_succ,Array.replicate_zero,List.push_toArray,List.nil_append,List.cons_append]
   refine Chain.take (i:=0) (oi:=⟨some 23,_,_,_,_,_⟩) (v:=?v1) rfl (by kernel_rfl) (by kernel_rfl) (Or.inl ⟨by rfl,?y1⟩) ?rest1
   case y1=>intro w hSw;clear hSw;go_simp;(try with_reducible rfl)
   simp only [Act.put,List.setIfInBounds_toArray,List.set_cons_zero,List.set_cons_succ]
   refine Chain.take (i:=1) (oi:=⟨some 24,_,_,_,_,_⟩) (v:=?v2) rfl (by kernel_rfl) (by kernel_rfl) (Or.inl ⟨by rfl,?y2⟩) ?rest2
   case y2=>intro w hSw;go_simp;(try with_reducible rfl)
   simp only [Act.put,List.setIfInBounds_toArray,List.set_cons_zero,List.set_cons_succ]
   refine Chain.take (i:=2) (oi:=⟨some 25,_,_,_,_,_⟩) (v:=?v3) rfl (by kernel_rfl) (by kernel_rfl) (Or.inl ⟨by rfl,?y3⟩) ?rest3
   case y3=>intro w hSw;clear hSw;go_simp;(try with_reducible rfl)
   simp only [Act.put,List.setIfInBounds_toArray,List.set_cons_zero,List.set_cons_succ]
   refine Chain.take (i:=3) (oi:=⟨some 26,_,_,_,_,_⟩) (v:=?v4) rfl (by kernel_rfl) (by kernel_rfl) (Or.inl ⟨by rfl,?y4⟩) ?rest4
   case y4=>intro w hSw;clear hSw;go_simp;(try with_reducible rfl)
   simp only [Act.put,List.setIfInBounds_toArray,List.set_cons_zero,List.set_cons_succ]
   refine Chain.take (i:=4) (oi:=⟨some 27,_,_,_,_,_⟩) (v:=?v5) rfl (by kernel_rfl) (by kernel_rfl) (Or.inl ⟨by rfl,?y5⟩) ?rest5
   case y5=>intro w hSw;clear hSw;go_simp;(try with_reducible rfl)
   simp only [Act.put,List.setIfInBounds_toArray,List.set_cons_zero,List.set_cons_succ]
   refine Chain.take (i:=5) (oi:=⟨some 28,_,_,_,_,_⟩) (v:=?v6) rfl (by kernel_rfl) (by kernel_rfl) (Or.inl ⟨by rfl,?y6⟩) ?rest6
   case y6=>intro w hSw;go_simp;(try with_reducible rfl)
   simp only [Act.put,List.setIfInBounds_toArray,List.set_cons_zero,List.set_cons_succ]
   refine' Chain.call (i:=6) (oi:=⟨some 29,_,_,_,_,_⟩) _ _ rfl (by kernel_rfl) (by kernel_rfl) (by rfl) ?he7 (fun w hS=>HCl.out w hS) ?rest7
   case he7=>intro w;go_simp
   simp only [Act.put,List.setIfInBounds_toArray,List.set_cons_zero,List.set_cons_succ]
   refine Chain.last (by kernel_rfl) (fun w hSw=>?_)
   refine wpAnyH_ready (rs:=[7]) (by kernel_rfl) (by simp) ?_
   refine AllReadyH.cons (o:=⟨some 8,_,_,_,_,_⟩) rfl (fun K hK=>?_) AllReadyH.nil
   go_simp
   refine hK.out _ _ trivial (fun _=>?_)
   clear hK
   try simp only [List.setIfInBounds_toArray,List.set_cons_zero,List.set_cons_succ]
   refine wpAnyH_done (by kernel_rfl) ?_ _
   skip
   have HK:=hSw
   clear hSw M0 HCl
   by_cases hz:cn=0
   ·subst hz
    have hc0:clauseR room (lastW Rw.z (l.take k)) x=0:=by rw [← HA.out];exact HCn.out.symm
    generalize w=w2 at *
    have HNx:Hid (ChkI 55 W W.heap.size room l (k + 1) ((((((w2).setCell ⟨W.heap.size,0,none⟩ (.int .u64 (x.g:Int))).setCell ⟨W.heap.size,1,none⟩ (.int .u64 (x.c:Int))).setCell ⟨W.heap.size,2,none⟩ (.int .u64 (x.d:Int))).setCell ⟨W.heap.size,3,none⟩ (.int .u64 (x.s:Int))).setCell ⟨W.heap.size,4,none⟩ (.int .u64 (x.w:Int)))):=Lib.hid (HK.out.next HL.out HX.out hc0)
    replace a0:=a0 _ HK
    replace a1:=a1 _ HK
    replace a2:=a2 _ HK
    replace a3:=a3 _ HK
    replace a4:=a4 _ HK
    replace q0:=q0 _ HK
    replace q1:=q1 _ HK
    replace q2:=q2 _ HK
    replace q3:=q3 _ HK
    replace q4:=q4 _ HK
    have y0:=HK.out.at_.free 0
    have y1:=HK.out.at_.free 1
    have y2:=HK.out.at_.free 2
    have y3:=HK.out.at_.free 3
    have y4:=HK.out.at_.free 4
    clear HK hc0 HCn HA c0 c1 c2 c3 c4 hbl
    go_wp2_with fail
    go_roundw
    case rel=>exact ⟨k + 1,by go_num,by omega,HNx⟩
    case measure=>simp [intOf];omega
   ·have HE:Hid (checkR room Rw.z 0 l=(k,cn)):=Lib.hid (by
     have:=checkR_stop HK.out.fine HL.out HX.out (by rw [← HA.out,← HCn.out];exact hz)
     rw [this,← HA.out,← HCn.out])
    have dz:0 < cn:=by omega
    clear hz
    go_wp2_with fail
    go_ret2
    exact ⟨by rw [HC.out,HE.out];rfl,HK.out.bel⟩
  ·obtain rfl:k=l.length:=by omega
   have HE:Hid (checkR room Rw.z 0 l=(0,0)):=Lib.hid (checkR_fine (by have:=H.out.fine;rwa [List.take_length] at this))
   go_wp2_with fail
   go_ret2
   exact ⟨by rw [HC.out,HE.out];rfl,H.out.bel⟩
end Go.Proofs.Ytljganehlagnoaa

set_option linter.unusedVariables false
namespace Go.Proofs.Ytljganehlagnoaa
open Go.RowKit
end Go.Proofs.Ytljganehlagnoaa

set_option linter.unusedVariables false
namespace Go.Proofs.Ytljganehlagnoaa
open Go.RowKit
theorem own_its {α:Type} [Itm α] {T:TypeId} {B:Nat} {w:World} {v:Value} {l:List α} (h:SOwn T B w v l):∃ao cap,v=.slice ao l.length cap∧Its w ao l:=by
 obtain ⟨ao,cap,e,_,_,hi,_⟩:=h.form
 exact ⟨ao,cap,e,hi⟩
end Go.Proofs.Ytljganehlagnoaa
