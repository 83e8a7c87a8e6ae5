/- Lemmas. -/
import Derived.Test.YtjhiooggnpbecaaGreatDoorK412
set_option linter.unusedVariables false
namespace Go.Proofs.YtjhiooggnpbecaaGreatDoor
open Tryz
open Go.RowKit Pl
variable {s:Int}
structure aV where
 full:Bool
 rnd:Bool
 lossy:Bool
 stale:Bool
 fl:Nat
 tg:Nat
 cp:Nat
 rs:Nat
 el:Nat
 wt:Nat
structure aV.ok (x:aV):Prop where
 fl:x.fl≤↑ω
 tg:x.tg≤↑ω
 cp:x.cp≤↑ω
 rs:x.rs≤↑ω
 el:x.el≤↑ω
 wt:x.wt≤↑ω
def aV.cells (x:aV):Array Value:=#[.bool x.full,.bool x.rnd,.bool x.lossy,.bool x.stale,↑x.fl,↑x.tg,↑x.cp,↑x.rs,↑x.el,↑x.wt]
def bJ (s:Int):Bool:=decide (0≤s) && decide (s≤6)
def ovS (x:aV):Bool:=decide (x.wt≤x.el)
def fX (x:aV):Bool:=decide (shareS x.tg 5 4≤x.fl)
def fG (s:Int) (x:aV):Int:=
 if (bJ s && x.stale && (s != 6))=true then 6
 else if s=0 then (if (x.full || x.lossy)=true then 1 else 0)
 else if s=1 then (if x.fl≤x.tg then 2 else 1)
 else if s=2 then (if x.fl≤min x.tg x.cp then 3 else if ovS x=true then 4 else 2)
 else if s=3 then (if ovS x=true then 4 else 3)
 else if s=4 then (if 1≤x.rs then 5 else 4)
 else if s=5 then (if (x.lossy || (decide (1≤x.rs) && fX x))=true then 2 else 5)
 else if s=6 then (if (ovS x && decide (1≤x.rs))=true then (if x.full=true then 3 else 0) else 6)
 else s
def iI (s:Int) (cycle probe:Nat):Nat:=if s=2∨s=3 then 2000000 + 125000 * (cycle % 8) else if s=6 then probe else 0
def wW:List (Int × Int):=[(0,1),(0,6),(1,2),(1,6),(2,3),(2,4),(2,6),(3,4),(3,6),(4,5),(4,6),(5,2),(5,6),(6,3),(6,0)]
def j8 (s t:Int):Bool:=if s=t then bJ s else decide ((s,t)∈wW)
theorem mV {P:Int→Prop} (h0:P 0) (h1:P 1) (h2:P 2) (h3:P 3) (h4:P 4) (h5:P 5) (h6:P 6) (h:∀s,(s < 0∨6 < s)→P s) (s:Int):P s:=by
 by_cases c:s < 0∨6 < s
 ·exact h s c
 ·have:s=0∨s=1∨s=2∨s=3∨s=4∨s=5∨s=6:=by omega
  rcases this with rfl | rfl | rfl | rfl | rfl | rfl | rfl <;> assumption
theorem fK (h:s < 0∨6 < s):bJ s=false:=by
 unfold bJ;rcases h with h | h
 ·simp only [decide_eq_false (by omega:¬(0≤s)),Bool.false_and]
 ·simp only [decide_eq_false (by omega:¬(s≤6)),Bool.and_false]
theorem D6 (h:s < 0∨6 < s) (x:aV):fG s x=s:=by
 unfold fG;rw [fK h];simp only [Bool.false_and,Bool.false_eq_true,if_false];rw [if_neg (by omega),if_neg (by omega),if_neg (by omega),if_neg (by omega),if_neg (by omega),if_neg (by omega),if_neg (by omega)]
theorem sL (h:s < 0∨6 < s) (t:Int):j8 s t=false:=by
 unfold j8;split
 ·exact fK h
 ·refine decide_eq_false (fun hm=>?_)
  unfold wW at hm;simp only [List.mem_cons,Prod.mk.injEq,List.not_mem_nil,or_false] at hm;omega
theorem qC (s:Int) (x:aV):j8 s (fG s x)=bJ s∧bJ (fG s x)=bJ s:=by
 have ho:∀s,(s < 0∨6 < s)→j8 s (fG s x)=bJ s∧bJ (fG s x)=bJ s:=fun s h=>by
  rw [D6 h];exact ⟨by rw [sL h,fK h],rfl⟩
 revert s
 refine mV ?_ ?_ ?_ ?_ ?_ ?_ ?_ ho;all_goals
  cases hs:x.stale
  all_goals
   unfold fG;rw [hs];first
    | (rw [if_pos (by decide)];exact ⟨by decide,by decide⟩)
    | (rw [if_neg (by decide)];simp only [Int.reduceEq,if_true,if_false];(repeat' split);all_goals exact ⟨by decide,by decide⟩)
theorem cD (s:Int) (w:World):Calls prog 228 #[.int .i64 s] w fun e w'=>e=.returned (.bool (bJ s))∧w'=w:=by
 have hr:bJ s=(decide ((0:Int)≤s) && decide (s≤6)):=rfl;rw [hr];clear hr;by_cases c:(0:Int)≤s
 ·have t1:decide ((0:Int)≤s)=true:=decide_eq_true c
  rw [t1];clear c;simp only [Bool.true_and];generalize hb:decide (s≤6)=b at *;go_enter func228,ntmps228;go_wp2;go_ret;exact ⟨rfl,rfl⟩
 ·have t1:decide ((0:Int)≤s)=false:=decide_eq_false c
  rw [t1];clear c;simp only [Bool.false_and];go_enter func228,ntmps228;go_wp2;go_ret;exact ⟨rfl,rfl⟩
theorem j9 (x:aV) (w:World):Calls prog 229 #[.agg x.cells] w fun e w'=>e=.returned (.bool (ovS x))∧Below ↑w w w':=by
 obtain ⟨f,r,l,st,fl,tg,cp,rs,el,wt⟩:=x;have e:ovS ⟨f,r,l,st,fl,tg,cp,rs,el,wt⟩=decide (wt≤el):=rfl;rw [e];clear e;have HB:=lh ((Below.refl w.heap.size w).alloc (Nat.le_refl _) (.cells (aV.cells ⟨f,r,l,st,fl,tg,cp,rs,el,wt⟩) 282));generalize hb:decide (wt≤el)=b;unfold aV.cells at *;dsimp only at *
 go_enter func229,ntmps229;go_wp2;go_ret;exact ⟨rfl,HB.out⟩
theorem kA (x:aV) (hx:x.ok) (w:World):Calls prog 230 #[.agg x.cells] w fun e w'=>e=.returned (.bool (fX x))∧Below ↑w w w':=by
 have ht:=hx.tg;clear hx;obtain ⟨f,r,l,st,fl,tg,cp,rs,el,wt⟩:=x;dsimp only at ht
 have e:fX ⟨f,r,l,st,fl,tg,cp,rs,el,wt⟩=decide (shareS tg 5 4≤fl):=rfl;rw [e];clear e;have HS:=lh (fun w=>iC tg 5 4 w ht (by omega) (by omega));clear ht;generalize shareS tg 5 4=q at *;have HB:=lh ((Below.refl w.heap.size w).alloc (Nat.le_refl _) (.cells (aV.cells ⟨f,r,l,st,fl,tg,cp,rs,el,wt⟩) 282));generalize hb:decide (q≤fl)=b;unfold aV.cells at *;dsimp only at *
 go_enter func230,ntmps230;go_wp2_with fail;go_quiet (first | (go_at_call 86;exact Calls.quiet_of (HS.out _)))
 go_wp2_with fail;go_ret;exact ⟨rfl,HB.out.trans (aB.below ⟨_,rfl⟩ _)⟩
theorem gH (x:aV) (w:World):Calls prog 231 #[.agg x.cells] w fun e w'=>e=.returned (.int .i64 (if x.full=true then 3 else 0))∧Below ↑w w w':=by
 obtain ⟨f,r,l,st,fl,tg,cp,rs,el,wt⟩:=x;have HB:=lh ((Below.refl w.heap.size w).alloc (Nat.le_refl _) (.cells (aV.cells ⟨f,r,l,st,fl,tg,cp,rs,el,wt⟩) 282));unfold aV.cells at *;dsimp only at *
 cases f
 ·go_enter func231,ntmps231
  go_wp2;go_ret;exact ⟨rfl,HB.out⟩
 ·go_enter func231,ntmps231
  go_wp2;go_ret;exact ⟨rfl,HB.out⟩
theorem JV (s:Int) (c p:Nat) (w:World) (hc:c≤↑ω):Calls prog 234 #[.int .i64 s,↑c,↑p] w fun e w'=>e=.returned ↑(iI s c p:Nat)∧w'=w:=by
 have HM:c % 8≤7:=by omega
 by_cases c2:s=2∨s=3
 ·have HW:Hid ((iI s c p:Nat)=2000000 + 125000 * (c % 8)):=lh (if_pos c2)
  rcases c2 with rfl | rfl
  all_goals
   go_enter func234,ntmps234;go_wp2;go_ret;exact ⟨bH (by rw [HW.out];simp),rfl⟩
 ·by_cases c6:s=6
  ·subst c6
   have HW:Hid ((iI 6 c p:Nat)=p):=lh rfl;go_enter func234,ntmps234;go_wp2;go_ret;exact ⟨bH (by rw [HW.out]),rfl⟩
  ·have HW:Hid ((iI s c p:Nat)=0):=lh (by unfold iI;rw [if_neg c2,if_neg c6])
   have t2:(s == 2)=false:=beq_eq_false_iff_ne.2 (fun h=>c2 (Or.inl h));have t3:(s == 3)=false:=beq_eq_false_iff_ne.2 (fun h=>c2 (Or.inr h));have t6:(s == 6)=false:=beq_eq_false_iff_ne.2 c6;clear c2 c6;go_enter func234,ntmps234;go_wp2;go_ret;exact ⟨bH (by rw [HW.out];rfl),rfl⟩
end Go.Proofs.YtjhiooggnpbecaaGreatDoor
