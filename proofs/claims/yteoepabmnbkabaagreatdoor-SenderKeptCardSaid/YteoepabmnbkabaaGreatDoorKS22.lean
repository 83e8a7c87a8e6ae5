/- 1 texts put together: what each one says stands ahead of it. -/
import Derived.Test.YteoepabmnbkabaaGreatDoorKS13
import Derived.BigQuiet
import Derived.Lib.Hide
set_option linter.unusedVariables false
namespace Go.Proofs.YteoepabmnbkabaaGreatDoor
open Go.RowKit Pl
structure SigS where
 full:Bool
 rnd:Bool
 lossy:Bool
 stale:Bool
 fl:Nat
 tg:Nat
 cp:Nat
 rs:Nat
 el:Nat
 wt:Nat
structure SigS.ok (x:SigS):Prop where
 fl:x.fl≤18446744073709551615
 tg:x.tg≤18446744073709551615
 cp:x.cp≤18446744073709551615
 rs:x.rs≤18446744073709551615
 el:x.el≤18446744073709551615
 wt:x.wt≤18446744073709551615
def SigS.cells (x:SigS):Array Value:=#[.bool x.full,.bool x.rnd,.bool x.lossy,.bool x.stale,.int .u64 (x.fl:Int),.int .u64 (x.tg:Int),.int .u64 (x.cp:Int),.int .u64 (x.rs:Int),.int .u64 (x.el:Int),.int .u64 (x.wt:Int)]
def rightI (s:Int):Bool:=decide (0≤s) && decide (s≤6)
def overS (x:SigS):Bool:=decide (x.wt≤x.el)
def highS (x:SigS):Bool:=decide (shareS x.tg 5 4≤x.fl)
def nextS (s:Int) (x:SigS):Int:=
 if (rightI s && x.stale && (s != 6))=true then 6
 else if s=0 then (if (x.full || x.lossy)=true then 1 else 0)
 else if s=1 then (if x.fl≤x.tg then 2 else 1)
 else if s=2 then (if x.fl≤min x.tg x.cp then 3 else if overS x=true then 4 else 2)
 else if s=3 then (if overS x=true then 4 else 3)
 else if s=4 then (if 1≤x.rs then 5 else 4)
 else if s=5 then (if (x.lossy || (decide (1≤x.rs) && highS x))=true then 2 else 5)
 else if s=6 then (if (overS x && decide (1≤x.rs))=true then (if x.full=true then 3 else 0) else 6)
 else s
def waitS (s:Int) (cycle probe:Nat):Nat:=if s=2∨s=3 then 2000000 + 125000 * (cycle % 8) else if s=6 then probe else 0
def arrowsL:List (Int × Int):=[(0,1),(0,6),(1,2),(1,6),(2,3),(2,4),(2,6),(3,4),(3,6),(4,5),(4,6),(5,2),(5,6),(6,3),(6,0)]
def followsS (s t:Int):Bool:=if s=t then rightI s else decide ((s,t)∈arrowsL)
theorem st_cases {P:Int→Prop} (h0:P 0) (h1:P 1) (h2:P 2) (h3:P 3) (h4:P 4) (h5:P 5) (h6:P 6) (h:∀s,(s < 0∨6 < s)→P s) (s:Int):P s:=by
 by_cases c:s < 0∨6 < s
 ·exact h s c
 ·have:s=0∨s=1∨s=2∨s=3∨s=4∨s=5∨s=6:=by omega
  rcases this with rfl | rfl | rfl | rfl | rfl | rfl | rfl <;> assumption
theorem right_out {s:Int} (h:s < 0∨6 < s):rightI s=false:=by
 unfold rightI
 rcases h with h | h
 ·simp only [decide_eq_false (by omega:¬(0≤s)),Bool.false_and]
 ·simp only [decide_eq_false (by omega:¬(s≤6)),Bool.and_false]
theorem next_out {s:Int} (h:s < 0∨6 < s) (x:SigS):nextS s x=s:=by
 unfold nextS
 rw [right_out h]
 simp only [Bool.false_and,Bool.false_eq_true,if_false]
 rw [if_neg (by omega),if_neg (by omega),if_neg (by omega),if_neg (by omega),if_neg (by omega),if_neg (by omega),if_neg (by omega)]
theorem follows_out {s:Int} (h:s < 0∨6 < s) (t:Int):followsS s t=false:=by
 unfold followsS
 split
 ·exact right_out h
 ·refine decide_eq_false (fun hm=>?_)
  unfold arrowsL at hm
  simp only [List.mem_cons,Prod.mk.injEq,List.not_mem_nil,or_false] at hm
  omega
theorem next_follows (s:Int) (x:SigS):followsS s (nextS s x)=rightI s∧rightI (nextS s x)=rightI s:=by
 have ho:∀s,(s < 0∨6 < s)→followsS s (nextS s x)=rightI s∧rightI (nextS s x)=rightI s:=fun s h=>by
  rw [next_out h];exact ⟨by rw [follows_out h,right_out h],rfl⟩
 revert s
 refine st_cases ?_ ?_ ?_ ?_ ?_ ?_ ?_ ho
 all_goals
  cases hs:x.stale
  all_goals
   unfold nextS
   rw [hs]
   first
    | (rw [if_pos (by decide)];exact ⟨by decide,by decide⟩)
    | (rw [if_neg (by decide)];simp only [Int.reduceEq,if_true,if_false];(repeat' split);all_goals exact ⟨by decide,by decide⟩)
theorem mo_right (s:Int) (w:World):Calls Tryz.prog 244 #[.int .i64 s] w fun e w'=>e=.returned (.bool (rightI s))∧w'=w:=by
 have hr:rightI s=(decide ((0:Int)≤s) && decide (s≤6)):=rfl
 rw [hr]
 clear hr
 by_cases c:(0:Int)≤s
 ·have t1:decide ((0:Int)≤s)=true:=decide_eq_true c
  rw [t1]
  clear c
  simp only [Bool.true_and]
  generalize hb:decide (s≤6)=b at *
  go_enter Tryz.func244,Tryz.ntmps244
  go_wp2
  go_ret
  exact ⟨rfl,rfl⟩
 ·have t1:decide ((0:Int)≤s)=false:=decide_eq_false c
  rw [t1]
  clear c
  simp only [Bool.false_and]
  go_enter Tryz.func244,Tryz.ntmps244
  go_wp2
  go_ret
  exact ⟨rfl,rfl⟩
theorem mo_over (x:SigS) (w:World):Calls Tryz.prog 245 #[.agg x.cells] w fun e w'=>e=.returned (.bool (overS x))∧Below w.heap.size w w':=by
 obtain ⟨f,r,l,st,fl,tg,cp,rs,el,wt⟩:=x
 have e:overS ⟨f,r,l,st,fl,tg,cp,rs,el,wt⟩=decide (wt≤el):=rfl
 rw [e]
 clear e
 have HB:=Lib.hid ((Below.refl w.heap.size w).alloc (Nat.le_refl _) (.cells (SigS.cells ⟨f,r,l,st,fl,tg,cp,rs,el,wt⟩) 259))
 generalize hb:decide (wt≤el)=b
 unfold SigS.cells at *
 dsimp only at *
 go_enter Tryz.func245,Tryz.ntmps245
 go_wp2
 go_ret
 exact ⟨rfl,HB.out⟩
theorem mo_high (x:SigS) (hx:x.ok) (w:World):Calls Tryz.prog 246 #[.agg x.cells] w fun e w'=>e=.returned (.bool (highS x))∧Below w.heap.size w w':=by
 have ht:=hx.tg
 clear hx
 obtain ⟨f,r,l,st,fl,tg,cp,rs,el,wt⟩:=x
 dsimp only at ht
 have e:highS ⟨f,r,l,st,fl,tg,cp,rs,el,wt⟩=decide (shareS tg 5 4≤fl):=rfl
 rw [e]
 clear e
 have HS:=Lib.hid (fun w=>fix_Share_n tg 5 4 w ht (by omega) (by omega))
 clear ht
 generalize shareS tg 5 4=q at *
 have HB:=Lib.hid ((Below.refl w.heap.size w).alloc (Nat.le_refl _) (.cells (SigS.cells ⟨f,r,l,st,fl,tg,cp,rs,el,wt⟩) 259))
 generalize hb:decide (q≤fl)=b
 unfold SigS.cells at *
 dsimp only at *
 go_enter Tryz.func246,Tryz.ntmps246
 go_wp2_with fail
 go_quiet (first | (go_at_call 163;exact Calls.quiet_of (HS.out _)))
 go_wp2_with fail
 go_ret
 exact ⟨rfl,HB.out.trans (Drawn.below ⟨_,rfl⟩ _)⟩
theorem mo_probed (x:SigS) (w:World):Calls Tryz.prog 247 #[.agg x.cells] w fun e w'=>e=.returned (.int .i64 (if x.full=true then 3 else 0))∧Below w.heap.size w w':=by
 obtain ⟨f,r,l,st,fl,tg,cp,rs,el,wt⟩:=x
 have HB:=Lib.hid ((Below.refl w.heap.size w).alloc (Nat.le_refl _) (.cells (SigS.cells ⟨f,r,l,st,fl,tg,cp,rs,el,wt⟩) 259))
 unfold SigS.cells at *
 dsimp only at *
 cases f
 ·go_enter Tryz.func247,Tryz.ntmps247
  go_wp2
  go_ret
  exact ⟨rfl,HB.out⟩
 ·go_enter Tryz.func247,Tryz.ntmps247
  go_wp2
  go_ret
  exact ⟨rfl,HB.out⟩
theorem mo_Wait (s:Int) (c p:Nat) (w:World) (hc:c≤18446744073709551615):Calls Tryz.prog 250 #[.int .i64 s,.int .u64 (c:Int),.int .u64 (p:Int)] w fun e w'=>e=.returned (.int .u64 ((waitS s c p:Nat):Int))∧w'=w:=by
 have HM:c % 8≤7:=by omega
 by_cases c2:s=2∨s=3
 ·have HW:Hid ((waitS s c p:Nat)=2000000 + 125000 * (c % 8)):=Lib.hid (if_pos c2)
  rcases c2 with rfl | rfl
  all_goals
   go_enter Tryz.func250,Tryz.ntmps250
   go_wp2
   go_ret
   exact ⟨ret_u64 (by rw [HW.out];simp),rfl⟩
 ·by_cases c6:s=6
  ·subst c6
   have HW:Hid ((waitS 6 c p:Nat)=p):=Lib.hid rfl
   go_enter Tryz.func250,Tryz.ntmps250
   go_wp2
   go_ret
   exact ⟨ret_u64 (by rw [HW.out]),rfl⟩
  ·have HW:Hid ((waitS s c p:Nat)=0):=Lib.hid (by unfold waitS;rw [if_neg c2,if_neg c6])
   have t2:(s == 2)=false:=beq_eq_false_iff_ne.2 (fun h=>c2 (Or.inl h))
   have t3:(s == 3)=false:=beq_eq_false_iff_ne.2 (fun h=>c2 (Or.inr h))
   have t6:(s == 6)=false:=beq_eq_false_iff_ne.2 c6
   clear c2 c6
   go_enter Tryz.func250,Tryz.ntmps250
   go_wp2
   go_ret
   exact ⟨ret_u64 (by rw [HW.out];rfl),rfl⟩
end Go.Proofs.YteoepabmnbkabaaGreatDoor
