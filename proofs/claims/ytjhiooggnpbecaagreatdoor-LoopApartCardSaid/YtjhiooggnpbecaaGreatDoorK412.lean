/- Lemmas. -/
import Derived.Deep.DeepCutAuto
import Derived.Deep.CutBlock
import Derived.Test.YtjhiooggnpbecaaGreatDoorK411
import Derived.Test.YtjhiooggnpbecaaGreatDoorK406
set_option linter.unusedVariables false
set_option maxHeartbeats 4000000
set_option maxRecDepth 100000
namespace Go.Proofs.YtjhiooggnpbecaaGreatDoor
open Tryz
variable {x:Array Value} {l:List Nat} {b f q:Nat} {o:Obj} {v:Value} {W w':World}
section
open Go.RowKit Pl
def MO (v1 v0 u n:Nat) (t x:Value):Prop:=∃a b:Nat,t=↑a∧x=↑b∧Dig v1 v0 u n a b
def MP (q:Nat) (w:World) (t:Value) (wx:World):Prop:=t=↑q∧w=wx
theorem jY {a b c d:Int} (h:a=c) (k:b=d):Ending.returned (.tuple #[.int .u64 a,.int .u64 b])=.returned (.tuple #[.int .u64 c,.int .u64 d]):=by rw [h,k]
theorem uL (hi lo y s v v1 v0 u l n1 n0 q r q1 r1 q' r' q0 r0:Nat) (w:World) (hh:0 < hi) (hy:hi < y) (hl:lo≤↑ω) (hy':y≤↑ω)
  (HLZ:Hid (Calls prog 249 #[↑y] w fun e w'=>e=.returned (.int .i64 s)∧w=w'))
  (s63:s≤63)
  (e1:IntKind.u64.wrap ((y:Int) * 2 ^ s)=(v:Int)) (e2:(v:Int) / 4294967296=(v1:Int)) (e3:bits .and .u64 (v:Int) 4294967295=(v0:Int))
  (e4:bits .or .u64 (IntKind.u64.wrap ((hi:Int) * 2 ^ s)) ((lo:Int) / 2 ^ (64 - s))=(u:Int)) (e5:IntKind.u64.wrap ((lo:Int) * 2 ^ s)=(l:Int))
  (e6:(l:Int) / 4294967296=(n1:Int)) (e7:bits .and .u64 (l:Int) 4294967295=(n0:Int)) (e8:(u:Int) / (v1:Int)=(q:Int)) (e9:IntKind.u64.wrap ((u:Int) - IntKind.u64.wrap ((q:Int) * (v1:Int)))=(r:Int))
  (e10:IntKind.u64.wrap (IntKind.u64.wrap (IntKind.u64.wrap ((u:Int) * 4294967296) + (n1:Int)) - IntKind.u64.wrap ((q1:Int) * (v:Int)))=(r1:Int))
  (e11:(r1:Int) / (v1:Int)=(q':Int)) (e12:IntKind.u64.wrap ((r1:Int) - IntKind.u64.wrap ((q':Int) * (v1:Int)))=(r':Int))
  (e13:IntKind.u64.wrap (IntKind.u64.wrap (IntKind.u64.wrap ((r1:Int) * 4294967296) + (n0:Int)) - IntKind.u64.wrap ((q0:Int) * (v:Int)))=(r0:Int))
  (b1:2147483648≤v1) (b1':v1 < 4294967296) (b0:v0 < 4294967296) (bv:v < 18446744073709551616) (bu:u < 18446744073709551616) (bl:l < 18446744073709551616) (bn1:n1 < 4294967296) (bn0:n0 < 4294967296)
  (br1:r1 < 18446744073709551616) (br0:r0 < 18446744073709551616) (bq1:q1 < 4294967296) (bq0:q0 < 4294967296)
  (bq:q≤4294967297) (bq':q'≤4294967297)
  (HU:Hid (u < v1 * 4294967296 + v0)) (HR1:Hid (r1 < v1 * 4294967296 + v0))
  (HQ1:Hid (q1=(u * 4294967296 + n1) / (v1 * 4294967296 + v0))) (HQ0:Hid (q0=(r1 * 4294967296 + n0) / (v1 * 4294967296 + v0)))
  (HD1:Hid (Dig v1 v0 u n1 q r)) (HD0:Hid (Dig v1 v0 r1 n0 q' r')):
  Calls prog 192 #[↑hi,↑lo,↑y] w fun e w'=>e=.returned (.tuple #[↑(q1 * 4294967296 + q0:Nat),↑(r0 / 2 ^ s:Nat)])∧w=w':=by
 go_enter func192,ntmps192;go_upto_block 0 with (go_at_call 249;refine (HLZ.out).mono ?_;rintro e w' ⟨rfl,rfl⟩)
 clear e1 e2 e3 e4 e5 e6 e7 e8 e9;go_cut [15] (fun t wx=>MP q1 w t wx)
 case first=>
  go_wp2_with fail;go_loop [15,16] (fun t x=>MO v1 v0 u n1 t x) (fun t _=>(intOf t).toNat)
  case atStart=>exact ⟨q,r,rfl,rfl,HD1.out⟩
  case round=>
   obtain ⟨a,b,rfl,rfl,hd⟩:=hrel;have ab:=hd.q_le;have bb:=hd.r_lt;have HDG:=lh hd;clear hd;have hra:(4294967296≤b + v1∧decide ((4294967296:Int)≤(b:Int) + (v1:Int))=true)∨(¬ 4294967296≤b + v1∧decide ((4294967296:Int)≤(b:Int) + (v1:Int))=false):=by
    by_cases h:4294967296≤b + v1
    ·exact Or.inl ⟨h,by simp;omega⟩
    ·exact Or.inr ⟨h,by simp;omega⟩
   by_cases hq:4294967296≤a
   ·obtain ⟨h1a,_⟩:=dig_step b1 b1' HU.out bn1 HDG.out (Or.inl hq)
    have hq2:decide ((4294967296:Int)≤(a:Int))=true:=by simp;omega
    rcases hra with ⟨hr,hr2⟩ | ⟨hr,hr2⟩
    ·have HB:=lh (dig_break b1 b1' b0 HU.out bn1 HDG.out (Or.inl hq) hr)
     clear hq hr;go_wp2;go_meet
     exact ⟨by have x:=HB.out;have y:=HQ1.out;rw [← y] at x;congr 1;omega,rfl⟩
    ·have HB:=lh (dig_next b1 b1' HU.out bn1 HDG.out (Or.inl hq) (by omega))
     clear hq hr;go_wp2;go_round
     case rel=>exact ⟨a - 1,b + v1,by congr 1;omega,by go_num,HB.out⟩
     case measure=>simp [intOf];omega
   ·have hp:a * v0≤4294967295 * 4294967295:=Nat.mul_le_mul (by omega) (by omega)
    have ep:(a:Int) * (v0:Int)=((a * v0:Nat):Int):=by simp
    have hq2:decide ((4294967296:Int)≤(a:Int))=false:=by simp;omega
    have hta:(4294967296 * b + n1 < a * v0∧decide ((4294967296:Int) * (b:Int) + (n1:Int) < ((a * v0:Nat):Int))=true)∨(¬ 4294967296 * b + n1 < a * v0∧decide ((4294967296:Int) * (b:Int) + (n1:Int) < ((a * v0:Nat):Int))=false):=by
     by_cases h:4294967296 * b + n1 < a * v0
     ·exact Or.inl ⟨h,by simp only [decide_eq_true_eq];omega⟩
     ·exact Or.inr ⟨h,by simp only [decide_eq_false_iff_not];omega⟩
    clear hq;generalize hpp:a * v0=p at *;have HP:=lh hpp;clear hpp;rcases hta with ⟨ht,ht2⟩ | ⟨ht,ht2⟩
    ·have HT:=lh ht
     obtain ⟨h1a,_⟩:=dig_step b1 b1' HU.out bn1 HDG.out (Or.inr (by rw [HP.out];exact ht));rcases hra with ⟨hr,hr2⟩ | ⟨hr,hr2⟩
     ·have HB:=lh (dig_break b1 b1' b0 HU.out bn1 HDG.out (Or.inr (by rw [HP.out];exact ht)) hr)
      clear hr ht;go_wp2;go_meet
      exact ⟨by have x:=HB.out;have y:=HQ1.out;rw [← y] at x;congr 1;omega,rfl⟩
     ·have HB:=lh (dig_next b1 b1' HU.out bn1 HDG.out (Or.inr (by rw [HP.out];exact ht)) (by omega))
      clear hr ht;go_wp2;go_round
      case rel=>exact ⟨a - 1,b + v1,by congr 1;omega,by go_num,HB.out⟩
      case measure=>simp [intOf];omega
    ·have HB:=lh (dig_done b1 HDG.out (by rw [HP.out];exact ht))
     clear ht hra;go_wp2;go_meet
     exact ⟨by have x:=HB.out;have y:=HQ1.out;rw [← y] at x;rw [x],rfl⟩
 case rest=>
  obtain ⟨rfl,rfl⟩:=hcut;go_upto_block 2 with (fail)
  clear e10 e11 e12;go_cut [18] (fun t wx=>MP q0 w t wx)
  case first=>
   go_wp2_with fail;go_loop [18,16] (fun t x=>MO v1 v0 r1 n0 t x) (fun t _=>(intOf t).toNat)
   case atStart=>exact ⟨q',r',rfl,rfl,HD0.out⟩
   case round=>
    obtain ⟨a,b,rfl,rfl,hd⟩:=hrel;have ab:=hd.q_le;have bb:=hd.r_lt;have HDG:=lh hd;clear hd;have hra:(4294967296≤b + v1∧decide ((4294967296:Int)≤(b:Int) + (v1:Int))=true)∨(¬ 4294967296≤b + v1∧decide ((4294967296:Int)≤(b:Int) + (v1:Int))=false):=by
     by_cases h:4294967296≤b + v1
     ·exact Or.inl ⟨h,by simp;omega⟩
     ·exact Or.inr ⟨h,by simp;omega⟩
    by_cases hq:4294967296≤a
    ·obtain ⟨h1a,_⟩:=dig_step b1 b1' HR1.out bn0 HDG.out (Or.inl hq)
     have hq2:decide ((4294967296:Int)≤(a:Int))=true:=by simp;omega
     rcases hra with ⟨hr,hr2⟩ | ⟨hr,hr2⟩
     ·have HB:=lh (dig_break b1 b1' b0 HR1.out bn0 HDG.out (Or.inl hq) hr)
      clear hq hr;go_wp2;go_meet
      exact ⟨by have x:=HB.out;have y:=HQ0.out;rw [← y] at x;congr 1;omega,rfl⟩
     ·have HB:=lh (dig_next b1 b1' HR1.out bn0 HDG.out (Or.inl hq) (by omega))
      clear hq hr;go_wp2;go_round
      case rel=>exact ⟨a - 1,b + v1,by congr 1;omega,by go_num,HB.out⟩
      case measure=>simp [intOf];omega
    ·have hp:a * v0≤4294967295 * 4294967295:=Nat.mul_le_mul (by omega) (by omega)
     have ep:(a:Int) * (v0:Int)=((a * v0:Nat):Int):=by simp
     have hq2:decide ((4294967296:Int)≤(a:Int))=false:=by simp;omega
     have hta:(4294967296 * b + n0 < a * v0∧decide ((4294967296:Int) * (b:Int) + (n0:Int) < ((a * v0:Nat):Int))=true)∨(¬ 4294967296 * b + n0 < a * v0∧decide ((4294967296:Int) * (b:Int) + (n0:Int) < ((a * v0:Nat):Int))=false):=by
      by_cases h:4294967296 * b + n0 < a * v0
      ·exact Or.inl ⟨h,by simp only [decide_eq_true_eq];omega⟩
      ·exact Or.inr ⟨h,by simp only [decide_eq_false_iff_not];omega⟩
     clear hq;generalize hpp:a * v0=p at *;have HP:=lh hpp;clear hpp;rcases hta with ⟨ht,ht2⟩ | ⟨ht,ht2⟩
     ·have HT:=lh ht
      obtain ⟨h1a,_⟩:=dig_step b1 b1' HR1.out bn0 HDG.out (Or.inr (by rw [HP.out];exact ht));rcases hra with ⟨hr,hr2⟩ | ⟨hr,hr2⟩
      ·have HB:=lh (dig_break b1 b1' b0 HR1.out bn0 HDG.out (Or.inr (by rw [HP.out];exact ht)) hr)
       clear hr ht;go_wp2;go_meet
       exact ⟨by have x:=HB.out;have y:=HQ0.out;rw [← y] at x;congr 1;omega,rfl⟩
      ·have HB:=lh (dig_next b1 b1' HR1.out bn0 HDG.out (Or.inr (by rw [HP.out];exact ht)) (by omega))
       clear hr ht;go_wp2;go_round
       case rel=>exact ⟨a - 1,b + v1,by congr 1;omega,by go_num,HB.out⟩
       case measure=>simp [intOf];omega
     ·have HB:=lh (dig_done b1 HDG.out (by rw [HP.out];exact ht))
      clear ht hra;go_wp2;go_meet
      exact ⟨by have x:=HB.out;have y:=HQ0.out;rw [← y] at x;rw [x],rfl⟩
  case rest=>
   obtain ⟨rfl,rfl⟩:=hcut;go_wp2;go_ret2
   exact ⟨jY (by simp) (by simp),rfl⟩
theorem IS (y:Nat) (w:World) (h0:y≠0) (h1:y < 18446744073709551616):
  Calls prog 249 #[↑y] w fun e w'=>e=.returned (.int .i64 (lzN y))∧w=w':=by
 have e:=(norm_shift y h0 h1).2.1;refine (Tryz.bits_LeadingZeros64 (y:Int) w (by omega) (by omega)).mono ?_;rintro e' w' ⟨rfl,hw⟩;rw [Int.toNat_natCast,e];exact ⟨rfl,hw.symm⟩
theorem gS (a s:Nat):(a:Int) * 2 ^ s=((a * 2 ^ s:Nat):Int):=by simp
theorem pW (a s:Nat):(a:Int) / 2 ^ s=((a / 2 ^ s:Nat):Int):=by simp
theorem oN (u n q v r:Nat) (h:v * q + r=u * 4294967296 + n) (hr:r < 18446744073709551616):
  IntKind.u64.wrap (IntKind.u64.wrap (IntKind.u64.wrap ((u:Int) * 4294967296) + (n:Int)) - IntKind.u64.wrap ((q:Int) * (v:Int)))=(r:Int):=by
 have e:(q:Int) * (v:Int)=((v * q:Nat):Int):=by rw [Nat.mul_comm];simp
 rw [e];generalize v * q=A at *;simp only [IntKind.wrap_u64];omega
theorem oO (u q v1 r:Nat) (h:v1 * q + r=u) (hu:u < 18446744073709551616):
  IntKind.u64.wrap ((u:Int) - IntKind.u64.wrap ((q:Int) * (v1:Int)))=(r:Int):=by
 have e:(q:Int) * (v1:Int)=((v1 * q:Nat):Int):=by rw [Nat.mul_comm];simp
 rw [e];generalize v1 * q=A at *;simp only [IntKind.wrap_u64];omega
theorem yN (hi lo y:Nat) (w:World) (hh:0 < hi) (hy:hi < y) (hl:lo≤↑ω) (hy':y≤↑ω):
  Calls prog 192 #[↑hi,↑lo,↑y] w fun e w'=>e=.returned (.tuple #[↑((hi * 18446744073709551616 + lo) / y:Nat),↑((hi * 18446744073709551616 + lo) % y:Nat)])∧w=w':=by
 have N:=norm_of hi lo y hy (by omega) (by omega);have HLZ:=lh (IS y w (by omega) (by omega));obtain ⟨D,M⟩:=div_two hi lo y _ _ _ _ N (by omega);rw [D,M];generalize hu:hi * 2 ^ lzN y + lo / 2 ^ (64 - lzN y)=u at N;generalize hL:lo * 2 ^ lzN y % 18446744073709551616=l at N;generalize hv:y * 2 ^ lzN y=v at N;generalize lzN y=s at *;have ev:v=v / 4294967296 * 4294967296 + v % 4294967296:=by omega
 have b1:2147483648≤v / 4294967296:=by have:=N.v_ge;omega
 have b1':v / 4294967296 < 4294967296:=by have:=N.v_lt;omega
 have b0:v % 4294967296 < 4294967296:=by omega
 have n1:l / 4294967296 < 4294967296:=by have:=N.l_lt;omega
 have n0:l % 4294967296 < 4294967296:=by omega
 have hv0:0 < v:=by omega
 have hU:u < v / 4294967296 * 4294967296 + v % 4294967296:=by rw [← ev];exact N.u_lt
 have hR1:(u * 4294967296 + l / 4294967296) % v < v:=Nat.mod_lt _ hv0;have hR0:((u * 4294967296 + l / 4294967296) % v * 4294967296 + l % 4294967296) % v < v:=Nat.mod_lt _ hv0;have d1:=dig_start b1 b1' b0 hU n1;have d0:=dig_start (u:=(u * 4294967296 + l / 4294967296) % v) b1 b1' b0 (by rw [← ev];exact hR1) n0;have q1:(u * 4294967296 + l / 4294967296) / v < 4294967296:=by have:=quo_lt b1 hU n1;rwa [← ev] at this
 have q0:((u * 4294967296 + l / 4294967296) % v * 4294967296 + l % 4294967296) / v < 4294967296:=by
  have:=quo_lt (u:=(u * 4294967296 + l / 4294967296) % v) b1 (by rw [← ev];exact hR1) n0;rwa [← ev] at this
 have r1:=Nat.div_add_mod (u * 4294967296 + l / 4294967296) v;have r0:=Nat.div_add_mod ((u * 4294967296 + l / 4294967296) % v * 4294967296 + l % 4294967296) v;have vlt:=N.v_lt;have ult:=N.u_lt;have llt:=N.l_lt;have c1:(u * 4294967296 + l / 4294967296) / v=(u * 4294967296 + l / 4294967296) / (v / 4294967296 * 4294967296 + v % 4294967296):=by rw [← ev]
 have c0:((u * 4294967296 + l / 4294967296) % v * 4294967296 + l % 4294967296) / v=((u * 4294967296 + l / 4294967296) % v * 4294967296 + l % 4294967296) / (v / 4294967296 * 4294967296 + v % 4294967296):=by rw [← ev]
 have hR1':(u * 4294967296 + l / 4294967296) % v < v / 4294967296 * 4294967296 + v % 4294967296:=by rw [← ev];exact hR1
 have l1:(u * 4294967296 + l / 4294967296) % v < 18446744073709551616:=Nat.lt_trans hR1 vlt;have l0:((u * 4294967296 + l / 4294967296) % v * 4294967296 + l % 4294967296) % v < 18446744073709551616:=Nat.lt_trans hR0 vlt;have ul:u < 18446744073709551616:=Nat.lt_trans ult vlt;have g1:=oN _ _ _ _ _ r1 l1;have g0:=oN _ _ _ _ _ r0 l0;have k1:=oO _ _ _ _ (Nat.div_add_mod u (v / 4294967296)) ul;have k0:=oO _ _ _ _ (Nat.div_add_mod ((u * 4294967296 + l / 4294967296) % v) (v / 4294967296)) l1;refine uL hi lo y s v (v / 4294967296) (v % 4294967296) u l (l / 4294967296) (l % 4294967296) (u / (v / 4294967296)) (u % (v / 4294967296))
  ((u * 4294967296 + l / 4294967296) / v) ((u * 4294967296 + l / 4294967296) % v) ((u * 4294967296 + l / 4294967296) % v / (v / 4294967296)) ((u * 4294967296 + l / 4294967296) % v % (v / 4294967296))
  (((u * 4294967296 + l / 4294967296) % v * 4294967296 + l % 4294967296) / v) (((u * 4294967296 + l / 4294967296) % v * 4294967296 + l % 4294967296) % v) w hh hy hl hy' HLZ N.s_le
  ?_ ?_ (Mul64.maskN v N.v_lt) ?_ ?_ ?_ (Mul64.maskN l N.l_lt) ?_ k1 g1 (Int.natCast_ediv _ _).symm k0 g0
  b1 b1' b0 N.v_lt ul N.l_lt n1 n0 l1 l0 q1 q0 d1.q_le d0.q_le (lh hU) (lh hR1') (lh c1) (lh c0) (lh d1) (lh d0)
 ·rw [gS,hv,IntKind.wrap_u64];omega
 ·omega
 ·rw [gS,pW,Mul64.wrapN _ N.hs,bits_or_u64_nat _ _ N.hs (by have:=N.low;have h2:2 ^ s≤2 ^ 63:=Nat.pow_le_pow_right (by omega) N.s_le;omega),or_add _ _ _ N.low,hu]
 ·rw [gS,Mul64.wrapM,hL]
 ·omega
 ·exact (Int.natCast_ediv _ _).symm
theorem rV (lo y:Nat) (w:World) (hy:0 < y) (hl:lo≤↑ω) (hy':y≤↑ω):
  Calls prog 192 #[↑ζ,↑lo,↑y] w fun e w'=>e=.returned (.tuple #[↑(lo / y:Nat),↑(lo % y:Nat)])∧aB w w':=by
 have HQ:Hid (IntKind.u64.wrap ((lo:Int) / (y:Int))=((lo / y:Nat):Int)):=lh (by
  rw [← Int.natCast_ediv];exact Mul64.wrapN _ (by have:=Nat.div_le_self lo y;omega))
 go_enter func192,ntmps192;go_wp2;go_quiet (fail)
 go_wp2;go_ret2
 exact ⟨jY (by first | exact HQ.out | simp) (by simp),_,rfl⟩
theorem PP (hi lo y:Nat) (w:World) (hy:hi < y) (hl:lo≤↑ω) (hy':y≤↑ω):
  Calls prog 192 #[↑hi,↑lo,↑y] w fun e w'=>e=.returned (.tuple #[↑((hi * 18446744073709551616 + lo) / y:Nat),↑((hi * 18446744073709551616 + lo) % y:Nat)])∧aB w w':=by
 by_cases h:hi=0
 ·subst h
  refine (rV lo y w hy hl hy').mono ?_;rintro e w' ⟨rfl,hw⟩;exact ⟨jY (by simp) (by simp),hw⟩
 ·refine (yN hi lo y w (by omega) hy hl hy').mono ?_
  rintro e w' ⟨rfl,rfl⟩;exact ⟨rfl,aB.refl _⟩

def gZ (a b c:Nat):Nat:=if c≤a * b / 18446744073709551616 then 0 else a * b % c
theorem oP (a b c:Nat) (h:c≤a * b / 18446744073709551616):shareS a b c=18446744073709551615:=by
 unfold shareS;split
 ·rfl
 ·have:18446744073709551615≤a * b / c:=by
   rw [Nat.le_div_iff_mul_le (by omega)];generalize a * b=p at *;omega
  omega
theorem rW (a b c:Nat) (h:a * b / 18446744073709551616 < c):shareS a b c=a * b / c:=by
 unfold shareS;have:a * b / c≤18446744073709551615:=by
  have:a * b / c < 18446744073709551616:=by
   rw [Nat.div_lt_iff_lt_mul (by omega)];generalize a * b=p at *;omega
  omega
 split <;> omega
theorem mP (x y z:Nat) (w:World) (hx:x≤↑ω) (hy:y≤↑ω) (hz:z≤↑ω):
  Calls prog 142 #[↑x,↑y,↑z] w fun e w'=>e=.returned (.tuple #[↑(shareS x y z:Nat),↑(gZ x y z:Nat)])∧aB w w':=by
 have HM:=lh (Tryz.bits_Mul64 x y (by omega) (by omega) w);have hlo:x * y % 18446744073709551616≤18446744073709551615:=by omega
 have HP:Hid (x * y / 18446744073709551616 * 18446744073709551616 + x * y % 18446744073709551616=x * y):=lh (by omega);by_cases h:z≤x * y / 18446744073709551616
 ·have HS:=lh (oP x y z h)
  have HR:Hid (gZ x y z=0):=lh (by unfold gZ;rw [if_pos h]);generalize x * y / 18446744073709551616=hi at *;generalize x * y % 18446744073709551616=lo at *;go_enter func142,ntmps142;go_wp2_with (go_at_call 184;refine (HM.out).mono ?_;rintro e w' ⟨rfl,hw⟩;rw [hw])
  go_ret2
  exact ⟨jY (by rw [HS.out];rfl) (by rw [HR.out];rfl),aB.refl _⟩
 ·have HS:=lh (rW x y z (by omega))
  have HR:Hid (gZ x y z=x * y % z):=lh (by unfold gZ;rw [if_neg h]);have hhi:x * y / 18446744073709551616≤18446744073709551615:=by omega
  generalize x * y / 18446744073709551616=hi at *;generalize x * y % 18446744073709551616=lo at *;have hd:=PP hi lo z w (by omega) hlo hz;rw [HP.out,← HS.out,← HR.out] at hd;have HD:=lh hd;clear hd HS HR;generalize shareS x y z=q at *;generalize gZ x y z=r at *;go_enter func142,ntmps142;go_wp2_with (first | (go_at_call 184;refine (HM.out).mono ?_;rintro e w' ⟨rfl,hw⟩;rw [hw]) | (go_at_call 192;refine (HD.out).mono ?_;rintro e w'' ⟨rfl,n,rfl⟩))
  go_ret2
  exact ⟨rfl,n,rfl⟩

theorem IT (a b c:Nat):overS a b c=if gZ a b c=0 then shareS a b c else addS (shareS a b c) 1:=by
 by_cases h:c≤a * b / 18446744073709551616
 ·rw [oP a b c h,show gZ a b c=0 by unfold gZ;rw [if_pos h],if_pos rfl]
  unfold overS;split
  ·rfl
  ·have:18446744073709551615≤(a * b + (c - 1)) / c:=by
    rw [Nat.le_div_iff_mul_le (by omega)];generalize a * b=p at *;omega
   omega
 ·rw [rW a b c (by omega),show gZ a b c=a * b % c by unfold gZ;rw [if_neg h]]
  have hc:0 < c:=by omega
  unfold overS addS;rw [if_neg (by omega)];have e:=Nat.div_add_mod (a * b) c;have l:=Nat.mod_lt (a * b) hc;have hb:a * b / c < 18446744073709551616:=by
   rw [Nat.div_lt_iff_lt_mul hc];generalize a * b=p at *;omega
  generalize a * b=p at *;generalize p / c=q at *;generalize p % c=r at *;split
  ·next h0=>
   subst h0;have:(p + (c - 1)) / c=q:=by
    rw [← e,Nat.add_zero,Nat.mul_add_div hc,Nat.div_eq_of_lt (by omega),Nat.add_zero]
   omega
  ·next h0=>
   have:(p + (c - 1)) / c=q + 1:=by
    rw [← e,Nat.add_assoc,Nat.mul_add_div hc,show r + (c - 1)=c * 1 + (r - 1) by omega,Nat.mul_add_div hc,Nat.div_eq_of_lt (by omega),Nat.add_zero]
   omega
theorem iB (x y z:Nat) (w:World) (hx:x≤↑ω) (hy:y≤↑ω) (hz:z≤↑ω):
  Calls prog 144 #[↑x,↑y,↑z] w fun e w'=>e=.returned ↑(overS x y z:Nat)∧Below ↑w w w':=by
 have HD:=lh (mP x y z w (by omega) (by omega) (by omega));have HO:=lh (IT x y z);have bs:=shareS_le x y z;generalize shareS x y z=q at *;generalize gZ x y z=r at *;by_cases h:r=0
 ·subst h
  go_enter func144,ntmps144;go_wp2_with (go_at_call 142;refine (HD.out).mono ?_;rintro e w'' ⟨rfl,n,rfl⟩)
  go_ret;exact ⟨bH (by rw [HO.out];simp),aB.below ⟨n,rfl⟩ _⟩
 ·have h':((r:Int) == 0)=false:=beq_eq_false_iff_ne.2 (by omega)
  have HN:=lh h;clear h;go_enter func144,ntmps144;go_wp2_with (first | (go_at_call 142;refine (HD.out).mono ?_;rintro e w'' ⟨rfl,n,rfl⟩) | (go_at_call 60;refine (rM _ _ _ (q:Int) 1 rfl (by omega) (by omega) (by omega) (by omega)).mono ?_;rintro e w'' ⟨rfl,rfl⟩))
  go_ret;exact ⟨bH (by rw [HO.out,if_neg HN.out]),(aB.below ⟨n,rfl⟩ _).alloc (Nat.le_refl _) _⟩

theorem yO (a b c:Int) (w:World) (ha0:0≤a) (ha:a≤↑ω) (hb0:0≤b) (hb:b≤↑ω) (hc0:0≤c) (hc:c≤↑ω):
  Calls prog 86 #[.int .u64 a,.int .u64 b,.int .u64 c] w fun e w'=>e=.returned ↑(shareS a.toNat b.toNat c.toNat:Nat)∧aB w w':=by
 obtain ⟨x,rfl⟩:=Int.eq_ofNat_of_zero_le ha0;obtain ⟨y,rfl⟩:=Int.eq_ofNat_of_zero_le hb0;obtain ⟨z,rfl⟩:=Int.eq_ofNat_of_zero_le hc0;simp only [Int.toNat_natCast];have HD:=lh (mP x y z w (by omega) (by omega) (by omega));clear ha0 ha hb0 hb hc0 hc;go_enter func86,ntmps86;go_wp2_with (go_at_call 142;refine (HD.out).mono ?_;rintro e w'' ⟨rfl,n,rfl⟩)
 go_ret;exact ⟨rfl,n,rfl⟩
theorem iC (x y z:Nat) (w:World) (hx:x≤↑ω) (hy:y≤↑ω) (hz:z≤↑ω):
  Calls prog 86 #[↑x,↑y,↑z] w fun e w'=>e=.returned ↑(shareS x y z:Nat)∧aB w w':=by
 have h:=yO (x:Int) (y:Int) (z:Int) w (by omega) (by omega) (by omega) (by omega) (by omega) (by omega);simpa only [Int.toNat_natCast] using h
theorem l5 (x y z:Nat) (w:World) (hx:x≤↑ω) (hy:y≤↑ω) (hz:z≤↑ω):
  Calls prog 86 #[↑x,↑y,↑z] w fun e w'=>e=.returned ↑(shareS x y z:Nat)∧Below ↑w w w':=
 (iC x y z w hx hy hz).mono fun _ _ h=>⟨h.1,h.2.below _⟩

def jZ (k x:Nat):Nat:=shareS x (gY k) 100
def dS (k x:Nat):Nat:=overS x (dQ k) 100
theorem CN (a b:Int) (w:World):(Instr.field 162 (.agg #[.int .u64 a,.int .u64 b]) 0).run prog w=.ok (.int .u64 a) w:=by kernel_rfl
theorem CO (a b:Int) (w:World):(Instr.field 162 (.agg #[.int .u64 a,.int .u64 b]) 1).run prog w=.ok (.int .u64 b) w:=by kernel_rfl
theorem IU (s:Int) (x:Nat) (hx:x≤↑ω) (w:World) (hg:Gl w):
  Calls prog 45 #[.int .i64 s,↑x] w fun e w'=>e=.returned ↑(jZ (stG s) x)∧Below ↑w w w':=by
 have HO:=lh (MK s w hg);have hf:=CN;have ha:=BK (stG s);have HS:=lh (fun w=>l5 x (gY (stG s)) 100 w hx (by omega) (by omega));have HE:Hid (jZ (stG s) x=shareS x (gY (stG s)) 100):=lh rfl;generalize gY (stG s)=a at *;generalize dQ (stG s)=b at *;generalize jZ (stG s) x=p at *;generalize shareS x a 100=q at *;clear hg ha hx;go_enter func45,ntmps45;go_wp2_with (first
  | (go_at_call 87;refine (HO.out).mono ?_;rintro e w' ⟨rfl,hb⟩;have HB:=lh hb;clear hb)
  | (go_at_call 86;refine (HS.out _).mono ?_;rintro e w2 ⟨rfl,hb⟩;have HB2:=lh hb;clear hb))
 go_ret;exact ⟨bH (by rw [HE.out]),MJ HB.out HB2.out⟩
theorem yP (s:Int) (x:Nat) (hx:x≤↑ω) (w:World) (hg:Gl w):
  Calls prog 236 #[.int .i64 s,↑x] w fun e w'=>e=.returned ↑(dS (stG s) x)∧Below ↑w w w':=by
 have HO:=lh (MK s w hg);have hf:=CO;have ha:=tX (stG s);have HS:=lh (fun w=>iB x (dQ (stG s)) 100 w hx (by omega) (by omega));have HE:Hid (dS (stG s) x=overS x (dQ (stG s)) 100):=lh rfl;generalize dQ (stG s)=b at *;generalize gY (stG s)=a at *;generalize dS (stG s) x=p at *;generalize overS x b 100=q at *;clear hg ha hx;go_enter func236,ntmps236;go_wp2_with (first
  | (go_at_call 87;refine (HO.out).mono ?_;rintro e w' ⟨rfl,hb⟩;have HB:=lh hb;clear hb)
  | (go_at_call 144;refine (HS.out _).mono ?_;rintro e w2 ⟨rfl,hb⟩;have HB2:=lh hb;clear hb))
 go_ret;exact ⟨bH (by rw [HE.out]),MJ HB.out HB2.out⟩

structure BS where
 hi:Nat
 lo:Nat
 bw:Nat
deriving DecidableEq
def BS.cells (b:BS):Array Value:=#[↑b.hi,↑b.lo,↑b.bw]
structure BS.ok (b:BS):Prop where
 hi:b.hi≤↑ω
 lo:b.lo≤↑ω
 bw:b.bw≤↑ω
def BS.none:BS:=⟨18446744073709551615,18446744073709551615,18446744073709551615⟩
def dL (x:Nat):Nat:=shareS x 7 10
def orS (x y:Nat):Nat:=if x=18446744073709551615 then y else x
def BS.lose (b:BS) (f r h:Nat):BS:=⟨b.hi,max f (dL (orS b.lo h)),max r (dL (orS b.bw r))⟩
def BS.pull (b:BS) (f t:Nat):BS:=⟨max f (dL t),b.lo,b.bw⟩
def BS.push (b:BS) (n:Nat):BS:=⟨if b.hi=18446744073709551615 then b.hi else min (addS b.hi n) 18446744073709551614,b.lo,b.bw⟩
def BS.short (b:BS):BS:=⟨b.hi,18446744073709551615,18446744073709551615⟩
def mQ (x:Nat) (l:List Nat):Nat:=l.foldl min x
def BS.cap (b:BS) (l:List Nat):Nat:=mQ (min b.hi b.lo) l
def BS.room (b:BS):Nat:=if b.hi=18446744073709551615 then 18446744073709551615 else shareS b.hi 85 100
def BS.limit (b:BS) (r:Nat):Nat:=min r b.bw
theorem mR (x:Nat):dL x≤18446744073709551615:=shareS_le _ _ _
theorem CP (x:Nat) (l r:List Nat):mQ x (l ++ r)=mQ (mQ x l) r:=by simp [mQ]
theorem yQ (x:Nat) {k:Nat} (h:k < l.length):mQ x (l.take (k + 1))=min (mQ x (l.take k)) (l.getD k 0):=by
 rw [List.take_succ_eq_append_getElem h,CP];simp [mQ,List.getD_eq_getElem?_getD,h]
theorem BS.lose_ok {b:BS} (hb:b.ok) {r h:Nat} (hf:f≤↑ω) (hr:r≤↑ω):(b.lose f r h).ok:=by
 have h1:=mR (orS b.lo h);have h2:=mR (orS b.bw r);exact ⟨hb.hi,by dsimp [BS.lose];omega,by dsimp [BS.lose];omega⟩
theorem BS.pull_ok {b:BS} (hb:b.ok) {t:Nat} (hf:f≤↑ω):(b.pull f t).ok:=by
 have h1:=mR t;exact ⟨by dsimp [BS.pull];omega,hb.lo,hb.bw⟩
theorem BS.push_ok {b:BS} (hb:b.ok) (n:Nat):(b.push n).ok:=by
 have h1:=hb.hi;exact ⟨by dsimp [BS.push];split <;> omega,hb.lo,hb.bw⟩
theorem BS.none_ok:BS.none.ok:=⟨Nat.le_refl _,Nat.le_refl _,Nat.le_refl _⟩
def oQ (w:World) (v:Option Addr) (l:List Nat):Prop:=
 0 < l.length→∃b off,v=some ⟨b,off,none⟩∧b < w.heap.size∧Row w b off l
theorem oQ.keep {w:World} {v:Option Addr} (h:oQ w v l) (k:Below ↑w w w'):oQ w' v l:=by
 intro hp;obtain ⟨b,off,e,hb,hc⟩:=h hp;exact ⟨b,off,e,Nat.lt_of_lt_of_le hb k.size,fun i hi=>(k.cell (p:=⟨b,off + i,none⟩) hb).trans (hc i hi)⟩
theorem oQ.none (w:World) (v:Option Addr):oQ w v []:=fun h=>absurd h (by simp)
theorem wI (x:Nat) (hx:x≤↑ω) (w:World):
  Calls prog 261 #[↑x] w fun e w'=>e=.returned ↑(dL x:Nat)∧Below ↑w w w':=by
 have HS:=lh (l5 x 7 10 w hx (by omega) (by omega));unfold dL;generalize shareS x 7 10=q at *;clear hx;go_enter func261,ntmps261;go_wp2_with fail;refine (HS.out).mono ?_;rintro e w' ⟨rfl,hb⟩;have HB:=lh hb;clear hb;go_wp2_with fail;go_ret;exact ⟨rfl,HB.out⟩
theorem IV (w:World):
  Calls prog 96 #[] w fun e w'=>e=.returned (.agg BS.none.cells)∧Below ↑w w w':=by
 have A0:=lh (Blk.new w 106 #[↑ζ,↑ζ,↑ζ]);have AW:=lh ((Below.refl w.heap.size w).alloc (Nat.le_refl _) (.cells #[↑ζ,↑ζ,↑ζ] 106));have F1:=lh (Blk.whole [.int .u64 18446744073709551615,.int .u64 18446744073709551615,.int .u64 18446744073709551615] A0.out rfl);have FW:=lh (Below.sets (Nat.le_refl w.heap.size) [.int .u64 18446744073709551615,.int .u64 18446744073709551615,.int .u64 18446744073709551615] 0 _ AW.out);go_enter func96,ntmps96;go_wp2_with fail;first
  | exact bodyPost_ret (aI rfl _ _ w.heap.size 106 _ _ rfl F1.out underlying106 rfl (by kernel_rfl)) rfl ⟨rfl,FW.out⟩
  | exact bodyPost_ret (aI rfl _ _ w.heap.size 106 _ _ rfl (Blk.new w _ _) underlying106 rfl (by kernel_rfl)) rfl ⟨rfl,(Below.refl _ _).alloc (Nat.le_refl _) _⟩
theorem CQ (b:BS) (w:World):
  Calls prog 226 #[.agg b.cells] w fun e w'=>e=.returned (.agg b.short.cells)∧Below ↑w w w':=by
 obtain ⟨hi,lo,bw⟩:=b;unfold BS.cells;dsimp only
 go_enter func226,ntmps226;go_wp2_with fail;exact bodyPost_ret (aI rfl _ _ (w.heap.size + 1) 106 _ _ rfl (Blk.new1 w _ _ _) underlying106 rfl (by kernel_rfl)) rfl ⟨rfl,((Below.refl _ _).alloc (Nat.le_refl _) _).alloc (by simp) _⟩
theorem wJ (b:BS) (f t:Nat) (w:World) (hf:f≤↑ω) (ht:t≤↑ω):
  Calls prog 223 #[.agg b.cells,↑f,↑t] w fun e w'=>e=.returned (.agg (b.pull f t).cells)∧Below ↑w w w':=by
 have HL:=lh (fun w=>wI t ht w);obtain ⟨hi,lo,bw⟩:=b;have HT:Hid ((BS.pull ⟨hi,lo,bw⟩ f t).cells=#[.int .u64 (max (f:Int) (dL t:Int)),↑lo,↑bw]):=lh (by
  have e:((max f (dL t):Nat):Int)=max (f:Int) (dL t:Int):=by omega
  unfold BS.pull BS.cells;dsimp only;rw [e])
 generalize dL t=q at *;clear hf ht;unfold BS.cells at HT ⊢;dsimp only at HT ⊢
 go_enter func223,ntmps223;go_wp2_with fail;refine (HL.out _).mono ?_;rintro e w1 ⟨rfl,h1⟩;have B0:=lh (Blk.keep (Blk.alloc (Blk.new w 106 #[↑hi,↑lo,↑bw]) (.cells #[↑ζ,↑ζ,↑ζ] 106)) h1);have B1:=lh (Blk.keep (Blk.new1 w (.cells #[↑hi,↑lo,↑bw] 106) 106 #[↑ζ,↑ζ,↑ζ]) h1);have BW:=lh (aD (((Below.refl w.heap.size w).alloc (Nat.le_refl _) (.cells #[↑hi,↑lo,↑bw] 106)).alloc (by simp) (.cells #[↑ζ,↑ζ,↑ζ] 106)) h1 (by simp;omega));have HNE:Hid (w.heap.size≠w.heap.size + 1):=lh (by omega);clear h1 HL;have a0:=B0.out.cell (i:=0) (v:=↑hi) rfl;have a1:=B0.out.cell (i:=1) (v:=↑lo) rfl;have a2:=B0.out.cell (i:=2) (v:=↑bw) rfl;have f0:=B0.out.free 0;have f1:=B0.out.free 1;have f2:=B0.out.free 2;have t0:=B1.out.cell (i:=0) (v:=↑ζ) rfl;have t1:=B1.out.cell (i:=1) (v:=↑ζ) rfl;have t2:=B1.out.cell (i:=2) (v:=↑ζ) rfl;have y0:=B1.out.free 0;have y1:=B1.out.free 1;have y2:=B1.out.free 2;have F1:=lh (Blk.whole [.int .u64 (max (f:Int) (q:Int):Int),↑lo,↑bw] (B1.out.set_other (c:=w.heap.size) 0 (.int .u64 (max (f:Int) (q:Int):Int)) (by omega)) rfl);have FW:=lh (Below.sets (show ↑w≤w.heap.size + 1 by omega) [.int .u64 (max (f:Int) (q:Int):Int),↑lo,↑bw] 0 _ (BW.out.setCell (p:=⟨w.heap.size,0,none⟩) (Nat.le_refl _) (.int .u64 (max (f:Int) (q:Int):Int))));go_wp2_with fail;exact bodyPost_ret (aI rfl _ _ (w.heap.size + 1) 106 _ _ rfl F1.out underlying106 rfl (by kernel_rfl)) rfl ⟨by rw [HT.out],FW.out⟩
theorem IW (b:BS) (f r h:Nat) (w:World) (hb:b.ok) (hf:f≤↑ω) (hr:r≤↑ω) (hh:h≤↑ω):
  Calls prog 225 #[.agg b.cells,↑f,↑r,↑h] w fun e w'=>e=.returned (.agg (b.lose f r h).cells)∧Below ↑w w w':=by
 have HL:=lh (fun x hx w=>wI x hx w);obtain ⟨hi,lo,bw⟩:=b;have blo:lo≤18446744073709551615:=hb.lo;have bbw:bw≤18446744073709551615:=hb.bw;have HT:Hid ((BS.lose ⟨hi,lo,bw⟩ f r h).cells=#[↑hi,.int .u64 (max (f:Int) (dL (orS lo h):Int)),.int .u64 (max (r:Int) (dL (orS bw r):Int))]):=lh (by
  have e1:((max f (dL (orS lo h)):Nat):Int)=max (f:Int) (dL (orS lo h):Int):=by omega
  have e2:((max r (dL (orS bw r)):Nat):Int)=max (r:Int) (dL (orS bw r):Int):=by omega
  unfold BS.lose BS.cells;dsimp only;rw [e1,e2])
 clear hb hf;unfold BS.cells at HT ⊢;dsimp only at HT ⊢
 by_cases c1:lo=18446744073709551615
 ·have t1:((lo:Int) == 18446744073709551615)=true:=by rw [c1];rfl
  have o1:orS lo h=h:=if_pos c1;rw [o1] at HT;have H1:=lh (HL.out h hh);generalize dL h=q1 at *;clear c1 o1;by_cases c2:bw=18446744073709551615
  ·have t2:((bw:Int) == 18446744073709551615)=true:=by rw [c2];rfl
   have o2:orS bw r=r:=if_pos c2;rw [o2] at HT;have H2:=lh (HL.out r hr);generalize dL r=q2 at *;clear c2 o2 HL hr hh blo bbw;go_enter func225,ntmps225;go_wp2_with fail;refine (H1.out _).mono ?_;rintro e w1 ⟨rfl,h1⟩;have B0:=lh (Blk.keep (Blk.alloc (Blk.new w 106 #[↑hi,↑h,↑r]) (.cells #[↑ζ,↑ζ,↑ζ] 106)) h1);have B1:=lh (Blk.keep (Blk.new1 w (.cells #[↑hi,↑h,↑r] 106) 106 #[↑ζ,↑ζ,↑ζ]) h1);have BW:=lh (aD (((Below.refl w.heap.size w).alloc (Nat.le_refl _) (.cells #[↑hi,↑h,↑r] 106)).alloc (by simp) (.cells #[↑ζ,↑ζ,↑ζ] 106)) h1 (by simp;omega));have HNE:Hid (w.heap.size≠w.heap.size + 1):=lh (by omega);clear h1 H1;have a0:=B0.out.cell (i:=0) (v:=↑hi) rfl;have a1:=B0.out.cell (i:=1) (v:=↑h) rfl;have a2:=B0.out.cell (i:=2) (v:=↑r) rfl;have f0:=B0.out.free 0;have f1:=B0.out.free 1;have f2:=B0.out.free 2;go_wp2_with fail;refine (H2.out _).mono ?_;rintro e w2 ⟨rfl,h2⟩;have C0:=lh (Blk.keep (B0.out.set 1 (.int .u64 (max (f:Int) (q1:Int)))) h2);have C1:=lh (Blk.keep (B1.out.set_other (c:=w.heap.size) 1 (.int .u64 (max (f:Int) (q1:Int))) (by omega)) h2);have CW:=lh (aD (BW.out.setCell (p:=⟨w.heap.size,1,none⟩) (Nat.le_refl _) (.int .u64 (max (f:Int) (q1:Int)))) h2 (by have:=BW.out.size;simpa using this));clear h2 H2 B0 B1 BW a0 a1 a2 f0 f1 f2;have a0:=C0.out.cell (i:=0) (v:=↑hi) rfl;have a1:=C0.out.cell (i:=1) (v:=.int .u64 (max (f:Int) (q1:Int):Int)) rfl;have a2:=C0.out.cell (i:=2) (v:=↑r) rfl;have f0:=C0.out.free 0;have f1:=C0.out.free 1;have f2:=C0.out.free 2;have t0:=C1.out.cell (i:=0) (v:=↑ζ) rfl;have t1:=C1.out.cell (i:=1) (v:=↑ζ) rfl;have t2:=C1.out.cell (i:=2) (v:=↑ζ) rfl;have y0:=C1.out.free 0;have y1:=C1.out.free 1;have y2:=C1.out.free 2;have F1:=lh (Blk.whole [↑hi,.int .u64 (max (f:Int) (q1:Int):Int),.int .u64 (max (r:Int) (q2:Int):Int)] (C1.out.set_other (c:=w.heap.size) 2 (.int .u64 (max (r:Int) (q2:Int):Int)) (by omega)) rfl);have FW:=lh (Below.sets (show ↑w≤w.heap.size + 1 by omega) [↑hi,.int .u64 (max (f:Int) (q1:Int):Int),.int .u64 (max (r:Int) (q2:Int):Int)] 0 _ (CW.out.setCell (p:=⟨w.heap.size,2,none⟩) (Nat.le_refl _) (.int .u64 (max (r:Int) (q2:Int):Int))));go_wp2_with fail;exact bodyPost_ret (aI rfl _ _ (w.heap.size + 1) 106 _ _ rfl F1.out underlying106 rfl (by kernel_rfl)) rfl ⟨by rw [HT.out],FW.out⟩
  ·have t2:((bw:Int) == 18446744073709551615)=false:=beq_eq_false_iff_ne.2 (by omega)
   have o2:orS bw r=bw:=if_neg c2;rw [o2] at HT;have H2:=lh (HL.out bw bbw);generalize dL bw=q2 at *;clear c2 o2 HL hr hh blo bbw;go_enter func225,ntmps225;go_wp2_with fail;refine (H1.out _).mono ?_;rintro e w1 ⟨rfl,h1⟩;have B0:=lh (Blk.keep (Blk.alloc (Blk.new w 106 #[↑hi,↑h,↑bw]) (.cells #[↑ζ,↑ζ,↑ζ] 106)) h1);have B1:=lh (Blk.keep (Blk.new1 w (.cells #[↑hi,↑h,↑bw] 106) 106 #[↑ζ,↑ζ,↑ζ]) h1);have BW:=lh (aD (((Below.refl w.heap.size w).alloc (Nat.le_refl _) (.cells #[↑hi,↑h,↑bw] 106)).alloc (by simp) (.cells #[↑ζ,↑ζ,↑ζ] 106)) h1 (by simp;omega));have HNE:Hid (w.heap.size≠w.heap.size + 1):=lh (by omega);clear h1 H1;have a0:=B0.out.cell (i:=0) (v:=↑hi) rfl;have a1:=B0.out.cell (i:=1) (v:=↑h) rfl;have a2:=B0.out.cell (i:=2) (v:=↑bw) rfl;have f0:=B0.out.free 0;have f1:=B0.out.free 1;have f2:=B0.out.free 2;go_wp2_with fail;refine (H2.out _).mono ?_;rintro e w2 ⟨rfl,h2⟩;have C0:=lh (Blk.keep (B0.out.set 1 (.int .u64 (max (f:Int) (q1:Int)))) h2);have C1:=lh (Blk.keep (B1.out.set_other (c:=w.heap.size) 1 (.int .u64 (max (f:Int) (q1:Int))) (by omega)) h2);have CW:=lh (aD (BW.out.setCell (p:=⟨w.heap.size,1,none⟩) (Nat.le_refl _) (.int .u64 (max (f:Int) (q1:Int)))) h2 (by have:=BW.out.size;simpa using this));clear h2 H2 B0 B1 BW a0 a1 a2 f0 f1 f2;have a0:=C0.out.cell (i:=0) (v:=↑hi) rfl;have a1:=C0.out.cell (i:=1) (v:=.int .u64 (max (f:Int) (q1:Int):Int)) rfl;have a2:=C0.out.cell (i:=2) (v:=↑bw) rfl;have f0:=C0.out.free 0;have f1:=C0.out.free 1;have f2:=C0.out.free 2;have t0:=C1.out.cell (i:=0) (v:=↑ζ) rfl;have t1:=C1.out.cell (i:=1) (v:=↑ζ) rfl;have t2:=C1.out.cell (i:=2) (v:=↑ζ) rfl;have y0:=C1.out.free 0;have y1:=C1.out.free 1;have y2:=C1.out.free 2;have F1:=lh (Blk.whole [↑hi,.int .u64 (max (f:Int) (q1:Int):Int),.int .u64 (max (r:Int) (q2:Int):Int)] (C1.out.set_other (c:=w.heap.size) 2 (.int .u64 (max (r:Int) (q2:Int):Int)) (by omega)) rfl);have FW:=lh (Below.sets (show ↑w≤w.heap.size + 1 by omega) [↑hi,.int .u64 (max (f:Int) (q1:Int):Int),.int .u64 (max (r:Int) (q2:Int):Int)] 0 _ (CW.out.setCell (p:=⟨w.heap.size,2,none⟩) (Nat.le_refl _) (.int .u64 (max (r:Int) (q2:Int):Int))));go_wp2_with fail;exact bodyPost_ret (aI rfl _ _ (w.heap.size + 1) 106 _ _ rfl F1.out underlying106 rfl (by kernel_rfl)) rfl ⟨by rw [HT.out],FW.out⟩
 ·have t1:((lo:Int) == 18446744073709551615)=false:=beq_eq_false_iff_ne.2 (by omega)
  have o1:orS lo h=lo:=if_neg c1;rw [o1] at HT;have H1:=lh (HL.out lo blo);generalize dL lo=q1 at *;clear c1 o1;by_cases c2:bw=18446744073709551615
  ·have t2:((bw:Int) == 18446744073709551615)=true:=by rw [c2];rfl
   have o2:orS bw r=r:=if_pos c2;rw [o2] at HT;have H2:=lh (HL.out r hr);generalize dL r=q2 at *;clear c2 o2 HL hr hh blo bbw;go_enter func225,ntmps225;go_wp2_with fail;refine (H1.out _).mono ?_;rintro e w1 ⟨rfl,h1⟩;have B0:=lh (Blk.keep (Blk.alloc (Blk.new w 106 #[↑hi,↑lo,↑r]) (.cells #[↑ζ,↑ζ,↑ζ] 106)) h1);have B1:=lh (Blk.keep (Blk.new1 w (.cells #[↑hi,↑lo,↑r] 106) 106 #[↑ζ,↑ζ,↑ζ]) h1);have BW:=lh (aD (((Below.refl w.heap.size w).alloc (Nat.le_refl _) (.cells #[↑hi,↑lo,↑r] 106)).alloc (by simp) (.cells #[↑ζ,↑ζ,↑ζ] 106)) h1 (by simp;omega));have HNE:Hid (w.heap.size≠w.heap.size + 1):=lh (by omega);clear h1 H1;have a0:=B0.out.cell (i:=0) (v:=↑hi) rfl;have a1:=B0.out.cell (i:=1) (v:=↑lo) rfl;have a2:=B0.out.cell (i:=2) (v:=↑r) rfl;have f0:=B0.out.free 0;have f1:=B0.out.free 1;have f2:=B0.out.free 2;go_wp2_with fail;refine (H2.out _).mono ?_;rintro e w2 ⟨rfl,h2⟩;have C0:=lh (Blk.keep (B0.out.set 1 (.int .u64 (max (f:Int) (q1:Int)))) h2);have C1:=lh (Blk.keep (B1.out.set_other (c:=w.heap.size) 1 (.int .u64 (max (f:Int) (q1:Int))) (by omega)) h2);have CW:=lh (aD (BW.out.setCell (p:=⟨w.heap.size,1,none⟩) (Nat.le_refl _) (.int .u64 (max (f:Int) (q1:Int)))) h2 (by have:=BW.out.size;simpa using this));clear h2 H2 B0 B1 BW a0 a1 a2 f0 f1 f2;have a0:=C0.out.cell (i:=0) (v:=↑hi) rfl;have a1:=C0.out.cell (i:=1) (v:=.int .u64 (max (f:Int) (q1:Int):Int)) rfl;have a2:=C0.out.cell (i:=2) (v:=↑r) rfl;have f0:=C0.out.free 0;have f1:=C0.out.free 1;have f2:=C0.out.free 2;have t0:=C1.out.cell (i:=0) (v:=↑ζ) rfl;have t1:=C1.out.cell (i:=1) (v:=↑ζ) rfl;have t2:=C1.out.cell (i:=2) (v:=↑ζ) rfl;have y0:=C1.out.free 0;have y1:=C1.out.free 1;have y2:=C1.out.free 2;have F1:=lh (Blk.whole [↑hi,.int .u64 (max (f:Int) (q1:Int):Int),.int .u64 (max (r:Int) (q2:Int):Int)] (C1.out.set_other (c:=w.heap.size) 2 (.int .u64 (max (r:Int) (q2:Int):Int)) (by omega)) rfl);have FW:=lh (Below.sets (show ↑w≤w.heap.size + 1 by omega) [↑hi,.int .u64 (max (f:Int) (q1:Int):Int),.int .u64 (max (r:Int) (q2:Int):Int)] 0 _ (CW.out.setCell (p:=⟨w.heap.size,2,none⟩) (Nat.le_refl _) (.int .u64 (max (r:Int) (q2:Int):Int))));go_wp2_with fail;exact bodyPost_ret (aI rfl _ _ (w.heap.size + 1) 106 _ _ rfl F1.out underlying106 rfl (by kernel_rfl)) rfl ⟨by rw [HT.out],FW.out⟩
  ·have t2:((bw:Int) == 18446744073709551615)=false:=beq_eq_false_iff_ne.2 (by omega)
   have o2:orS bw r=bw:=if_neg c2;rw [o2] at HT;have H2:=lh (HL.out bw bbw);generalize dL bw=q2 at *;clear c2 o2 HL hr hh blo bbw;go_enter func225,ntmps225;go_wp2_with fail;refine (H1.out _).mono ?_;rintro e w1 ⟨rfl,h1⟩;have B0:=lh (Blk.keep (Blk.alloc (Blk.new w 106 #[↑hi,↑lo,↑bw]) (.cells #[↑ζ,↑ζ,↑ζ] 106)) h1);have B1:=lh (Blk.keep (Blk.new1 w (.cells #[↑hi,↑lo,↑bw] 106) 106 #[↑ζ,↑ζ,↑ζ]) h1);have BW:=lh (aD (((Below.refl w.heap.size w).alloc (Nat.le_refl _) (.cells #[↑hi,↑lo,↑bw] 106)).alloc (by simp) (.cells #[↑ζ,↑ζ,↑ζ] 106)) h1 (by simp;omega));have HNE:Hid (w.heap.size≠w.heap.size + 1):=lh (by omega);clear h1 H1;have a0:=B0.out.cell (i:=0) (v:=↑hi) rfl;have a1:=B0.out.cell (i:=1) (v:=↑lo) rfl;have a2:=B0.out.cell (i:=2) (v:=↑bw) rfl;have f0:=B0.out.free 0;have f1:=B0.out.free 1;have f2:=B0.out.free 2;go_wp2_with fail;refine (H2.out _).mono ?_;rintro e w2 ⟨rfl,h2⟩;have C0:=lh (Blk.keep (B0.out.set 1 (.int .u64 (max (f:Int) (q1:Int)))) h2);have C1:=lh (Blk.keep (B1.out.set_other (c:=w.heap.size) 1 (.int .u64 (max (f:Int) (q1:Int))) (by omega)) h2);have CW:=lh (aD (BW.out.setCell (p:=⟨w.heap.size,1,none⟩) (Nat.le_refl _) (.int .u64 (max (f:Int) (q1:Int)))) h2 (by have:=BW.out.size;simpa using this));clear h2 H2 B0 B1 BW a0 a1 a2 f0 f1 f2;have a0:=C0.out.cell (i:=0) (v:=↑hi) rfl;have a1:=C0.out.cell (i:=1) (v:=.int .u64 (max (f:Int) (q1:Int):Int)) rfl;have a2:=C0.out.cell (i:=2) (v:=↑bw) rfl;have f0:=C0.out.free 0;have f1:=C0.out.free 1;have f2:=C0.out.free 2;have t0:=C1.out.cell (i:=0) (v:=↑ζ) rfl;have t1:=C1.out.cell (i:=1) (v:=↑ζ) rfl;have t2:=C1.out.cell (i:=2) (v:=↑ζ) rfl;have y0:=C1.out.free 0;have y1:=C1.out.free 1;have y2:=C1.out.free 2;have F1:=lh (Blk.whole [↑hi,.int .u64 (max (f:Int) (q1:Int):Int),.int .u64 (max (r:Int) (q2:Int):Int)] (C1.out.set_other (c:=w.heap.size) 2 (.int .u64 (max (r:Int) (q2:Int):Int)) (by omega)) rfl);have FW:=lh (Below.sets (show ↑w≤w.heap.size + 1 by omega) [↑hi,.int .u64 (max (f:Int) (q1:Int):Int),.int .u64 (max (r:Int) (q2:Int):Int)] 0 _ (CW.out.setCell (p:=⟨w.heap.size,2,none⟩) (Nat.le_refl _) (.int .u64 (max (r:Int) (q2:Int):Int))));go_wp2_with fail;exact bodyPost_ret (aI rfl _ _ (w.heap.size + 1) 106 _ _ rfl F1.out underlying106 rfl (by kernel_rfl)) rfl ⟨by rw [HT.out],FW.out⟩
theorem IX (b:BS) (n:Nat) (w:World) (hb:b.ok) (hn:n≤↑ω):
  Calls prog 177 #[.agg b.cells,↑n] w fun e w'=>e=.returned (.agg (b.push n).cells)∧Below ↑w w w':=by
 obtain ⟨hi,lo,bw⟩:=b;have bhi:hi≤18446744073709551615:=hb.hi;clear hb;by_cases c:hi=18446744073709551615
 ·have t1:((hi:Int) == 18446744073709551615)=true:=by rw [c];rfl
  have HT:Hid ((BS.push ⟨hi,lo,bw⟩ n).cells=#[↑hi,↑lo,↑bw]):=lh (by unfold BS.push BS.cells;dsimp only;rw [if_pos c]);clear c;unfold BS.cells at HT ⊢;dsimp only at HT ⊢
  go_enter func177,ntmps177;go_wp2_with fail;exact bodyPost_ret (aI rfl _ _ (w.heap.size + 1) 106 _ _ rfl (Blk.new1 w _ _ _) underlying106 rfl (by kernel_rfl)) rfl ⟨by rw [HT.out],((Below.refl _ _).alloc (Nat.le_refl _) _).alloc (by simp) _⟩
 ·have t1:((hi:Int) == 18446744073709551615)=false:=beq_eq_false_iff_ne.2 (by omega)
  have HA:=lh (fun W b hW=>BJ W b 2 hi n hW bhi hn);have HT:Hid ((BS.push ⟨hi,lo,bw⟩ n).cells=#[.int .u64 (min (addS hi n:Int) 18446744073709551614),↑lo,↑bw]):=lh (by
   have e:((min (addS hi n) 18446744073709551614:Nat):Int)=min (addS hi n:Int) 18446744073709551614:=by omega
   unfold BS.push BS.cells;dsimp only;rw [if_neg c,e])
  generalize addS hi n=q at *;clear c bhi hn;unfold BS.cells at HT ⊢;dsimp only at HT ⊢
  go_enter func177,ntmps177;go_wp2_with fail;refine (HA.out ((w.alloc (.cells #[↑hi,↑lo,↑bw] 106)).alloc (.cells #[↑ζ,↑ζ,↑ζ] 106)) _ (by simp)).mono ?_;rintro e w1 ⟨rfl,h1⟩;have B0:=lh (Blk.keep (Blk.alloc (Blk.new w 106 #[↑hi,↑lo,↑bw]) (.cells #[↑ζ,↑ζ,↑ζ] 106)) h1);have B1:=lh (Blk.keep (Blk.new1 w (.cells #[↑hi,↑lo,↑bw] 106) 106 #[↑ζ,↑ζ,↑ζ]) h1);have BW:=lh (aD (((Below.refl w.heap.size w).alloc (Nat.le_refl _) (.cells #[↑hi,↑lo,↑bw] 106)).alloc (by simp) (.cells #[↑ζ,↑ζ,↑ζ] 106)) h1 (by simp;omega));have HNE:Hid (w.heap.size≠w.heap.size + 1):=lh (by omega);clear h1 HA;have a0:=B0.out.cell (i:=0) (v:=↑hi) rfl;have a1:=B0.out.cell (i:=1) (v:=↑lo) rfl;have a2:=B0.out.cell (i:=2) (v:=↑bw) rfl;have f0:=B0.out.free 0;have f1:=B0.out.free 1;have f2:=B0.out.free 2;have t0:=B1.out.cell (i:=0) (v:=↑ζ) rfl;have t1:=B1.out.cell (i:=1) (v:=↑ζ) rfl;have t2:=B1.out.cell (i:=2) (v:=↑ζ) rfl;have y0:=B1.out.free 0;have y1:=B1.out.free 1;have y2:=B1.out.free 2;have F1:=lh (Blk.whole [.int .u64 (min (q:Int) 18446744073709551614:Int),↑lo,↑bw] (B1.out.set_other (c:=w.heap.size) 0 (.int .u64 (min (q:Int) 18446744073709551614:Int)) (by omega)) rfl);have FW:=lh (Below.sets (show ↑w≤w.heap.size + 1 by omega) [.int .u64 (min (q:Int) 18446744073709551614:Int),↑lo,↑bw] 0 _ (BW.out.setCell (p:=⟨w.heap.size,0,none⟩) (Nat.le_refl _) (.int .u64 (min (q:Int) 18446744073709551614:Int))));go_wp2_with fail;exact bodyPost_ret (aI rfl _ _ (w.heap.size + 1) 106 _ _ rfl F1.out underlying106 rfl (by kernel_rfl)) rfl ⟨by rw [HT.out],FW.out⟩
theorem wK (b:BS) (w:World) (hb:b.ok):
  Calls prog 233 #[.agg b.cells] w fun e w'=>e=.returned ↑b.room∧Below ↑w w w':=by
 obtain ⟨hi,lo,bw⟩:=b;have bhi:hi≤18446744073709551615:=hb.hi;clear hb;by_cases c:hi=18446744073709551615
 ·have t1:((hi:Int) == 18446744073709551615)=true:=by rw [c];rfl
  have HT:Hid (BS.room ⟨hi,lo,bw⟩=18446744073709551615):=lh (if_pos c);clear c;unfold BS.cells;dsimp only
  go_enter func233,ntmps233;go_wp2_with fail;go_ret;exact ⟨bH (by rw [HT.out];rfl),(Below.refl _ _).alloc (Nat.le_refl _) _⟩
 ·have t1:((hi:Int) == 18446744073709551615)=false:=beq_eq_false_iff_ne.2 (by omega)
  have HT:Hid (BS.room ⟨hi,lo,bw⟩=shareS hi 85 100):=lh (if_neg c);have HS:=lh (fun w=>l5 hi 85 100 w bhi (by omega) (by omega));generalize shareS hi 85 100=q at *;clear c bhi;unfold BS.cells;dsimp only
  go_enter func233,ntmps233;go_wp2_with fail;refine (HS.out _).mono ?_;rintro e w1 ⟨rfl,h1⟩;have HW:=lh (aD ((Below.refl w.heap.size w).alloc (Nat.le_refl _) _) h1 (by simp));clear h1;go_wp2_with fail;go_ret;exact ⟨bH (by rw [HT.out]),HW.out⟩
theorem NO (b:BS) (v:Option Addr) (cap:Nat) (l:List Nat) (w:World) (hl:l.length≤9223372036854775807) (hrow:oQ w v l):
  Calls prog 238 #[.agg b.cells,.slice v l.length cap] w fun e w'=>e=.returned ↑(b.cap l)∧Below ↑w w w':=by
 obtain ⟨hi,lo,bw⟩:=b;have HR:=lh hrow;have HT:Hid (BS.cap ⟨hi,lo,bw⟩ l=mQ (min hi lo) l):=lh rfl;have HM:Hid (min (hi:Int) (lo:Int)=((min hi lo:Nat):Int)):=lh (by omega);clear hrow;unfold BS.cells;dsimp only
 go_enter func238,ntmps238;go_wp2_with fail;go_loop [5,15] (fun s i=>∃k:Nat,k≤l.length∧i=.int .i64 k∧s=↑(mQ (min hi lo) (l.take k):Nat)) (fun _ i=>l.length - (intOf i).toNat)
 case atStart=>exact ⟨0,Nat.zero_le _,rfl,by rw [HM.out];rfl⟩
 case round=>
  obtain ⟨k,hk,rfl,rfl⟩:=hrel;by_cases hlt:k < l.length
  ·obtain ⟨rb,off,rfl,hb,hc⟩:=HR.out (by omega)
   have hcell:=aQ (hc k hlt) (.cells #[↑hi,↑lo,↑bw] 106);have HS:=lh (yQ (min hi lo) hlt);clear hb hc;generalize l.getD k 0=z at *;generalize mQ (min hi lo) (l.take k)=m at *;go_wp2_with fail;go_round
   case rel=>exact ⟨k + 1,by omega,by go_num,by rw [HS.out];congr 1;omega⟩
   case measure=>simp [intOf];omega
  ·obtain rfl:k=l.length:=by omega
   go_wp2_with fail;go_ret;exact ⟨bH (by rw [HT.out]),(Below.refl _ _).alloc (Nat.le_refl _) _⟩
theorem rX (b:BS) (r:Nat) (w:World):
  Calls prog 46 #[.agg b.cells,↑r] w fun e w'=>e=.returned ↑(b.limit r)∧Below ↑w w w':=by
 obtain ⟨hi,lo,bw⟩:=b;have HM:Hid (min (r:Int) (bw:Int)=(BS.limit ⟨hi,lo,bw⟩ r:Int)):=lh (by unfold BS.limit;dsimp only;omega);unfold BS.cells;dsimp only
 go_enter func46,ntmps46;go_wp2_with fail;go_ret;exact ⟨bH HM.out,(Below.refl _ _).alloc (Nat.le_refl _) _⟩
end

section
open Go.RowKit
structure KB where
 n:Nat
 w:Nat
 r:Nat
 t:Nat
namespace KB
def start (r:Nat):KB:=⟨0,0,r,0⟩
def ok (s:KB):Prop:=s.n≤↑ω∧s.w≤↑ω∧s.r≤↑ω∧s.t≤↑ω
def earnS (s:KB) (x:Nat):KB:=⟨Pl.addS s.n x,s.w,s.r,s.t⟩
def toS (s:KB) (now:Nat):KB:=if now≤s.t then s else ⟨Pl.addS s.n (Pl.mulS s.r (now - s.t)),s.w,s.r,now⟩
def spendB (s:KB) (x:Nat):Bool:=decide (x≤s.n)
def spendS (s:KB) (x:Nat):KB:=if x≤s.n then ⟨s.n - x,s.w,s.r,s.t⟩ else s
def takeB (s:KB) (x:Nat):Bool:=s.spendB (Pl.mulS x 1000000)
def takeS (s:KB) (x:Nat):KB:=s.spendS (Pl.mulS x 1000000)
def wasteN (s:KB) (x:Nat):Nat:=min x s.n
def wasteS (s:KB) (x:Nat):KB:=⟨s.n - min x s.n,Pl.addS s.w (min x s.n),s.r,s.t⟩
def cells (s:KB):Array Value:=#[↑s.n,↑s.w,↑s.r,↑s.t]
theorem start_ok {r:Nat} (h:r≤↑ω):(start r).ok:=⟨Nat.zero_le _,Nat.zero_le _,h,Nat.zero_le _⟩
theorem to_ok {s:KB} (h:s.ok) {now:Nat} (hn:now≤↑ω):(s.toS now).ok:=by
 unfold toS;split
 ·exact h
 ·exact ⟨Pl.addS_le _ _,h.2.1,h.2.2.1,hn⟩
theorem spend_ok {s:KB} (h:s.ok) (x:Nat):(s.spendS x).ok:=by
 unfold spendS;split
 ·exact ⟨Nat.le_trans (Nat.sub_le _ _) h.1,h.2⟩
 ·exact h
theorem take_ok {s:KB} (h:s.ok) (x:Nat):(s.takeS x).ok:=spend_ok h _
theorem waste_ok {s:KB} (h:s.ok) (x:Nat):(s.wasteS x).ok:=⟨Nat.le_trans (Nat.sub_le _ _) h.1,Pl.addS_le _ _,h.2.2⟩
end KB
structure hG (w:World) (b:Nat) (r:Value) (s:KB) (e:Ending) (w':World):Prop where
 e:e=.returned r
 blk:Blk w' b 217 s.cells
 gr:w.grownBy w' (some b)
structure dK (W:World) (b:Nat) (s:KB) (w:World):Prop where
 blk:Blk w b 217 s.cells
 gr:W.grownBy w (some b)
theorem dK.start {s:KB} (h:Blk W b 217 s.cells):dK W b s W:=⟨h,bS _ _⟩
theorem dK.drew {W w:World} {b:Nat} {s:KB} (h:dK W b s w):dK W b s w.drew:=⟨h.blk.drew,dP h.gr⟩
theorem dK.to {w:World} {s:KB} (h:dK W b s w) (k:Below ↑w w w'):dK W b s w':=⟨h.blk.keep k,eW h.gr (eX k _)⟩
theorem dK.al {w:World} {s:KB} (h:dK W b s w) (k:Below (w.alloc o).heap.size (w.alloc o) w'):dK W b s w':=(h.to (aC _ _)).to k
theorem dK.set {W w:World} {b:Nat} {s s':KB} (h:dK W b s w) (i:Nat) (u:Value) (he:s.cells.setIfInBounds i u=s'.cells):dK W b s' (w.setCell ⟨b,i,none⟩ u):=
 ⟨he▸h.blk.set i u,bI h.gr i u⟩
theorem dK.post {w:World} {s:KB} (h:dK W b s w):hG W b v s (.returned v) w:=⟨rfl,h.blk,h.gr⟩
theorem dK.call {w:World} {s s':KB} {e:Ending} (h:dK W b s w) (k:hG w b v s' e w'):dK W b s' w':=⟨k.blk,eW h.gr k.gr⟩
def wL (W:World) (b r t:Nat) (w:World):Prop:=∃n z,dK W b ⟨n,z,r,t⟩ w
theorem MQ {w:World} {n z r t:Nat} (h:Hid (dK W b ⟨n,z,r,t⟩ w)):Hid (wL W b r t w):=lh ⟨n,z,h.out⟩
theorem RJ {r t:Nat}:(∀w,Hid (wL W b r t w)→w.cell? ⟨b,2,none⟩=some ↑r)∧(∀w,Hid (wL W b r t w)→w.cell? ⟨b,3,none⟩=some ↑t):=
 ⟨fun w h=>by obtain ⟨n,z,k⟩:=h.out;exact k.blk.cell rfl,fun w h=>by obtain ⟨n,z,k⟩:=h.out;exact k.blk.cell rfl⟩
theorem NP (r:Nat) (w:World):Calls prog 78 #[↑r] w fun e w'=>e=.returned ↑(π w.heap.size)∧w.alloc (.cells (KB.start r).cells 217)=w':=by
 go_enter func78,ntmps78;go_wp2;go_ret;exact ⟨rfl,rfl⟩
theorem IY (b x:Nat) (s:KB) (W:World) (h:Blk W b 217 s.cells) (ho:s.ok) (hx:x≤↑ω):
  Calls prog 130 #[↑(π b),↑x] W (hG W b (.tuple #[]) (s.earnS x)):=by
 have h0:=h.cell (i:=0) (v:=↑s.n) rfl;have M0:=lh (dK.start h);have hA:=lh (bU s.n x ho.1 hx);unfold KB.earnS;clear h ho hx;generalize Pl.addS s.n x=z at *;go_enter func130,ntmps130;go_wp2_with fail;refine (hA.out _ _ (nc2 _ _ _ _).1 (nc2 _ _ _ _).2).mono ?_;rintro e w1 ⟨rfl,hb⟩;have M1:=lh (M0.out.al hb);have y0:=M1.out.blk.free 0;have c0:=M1.out.blk.cell (i:=0) (v:=↑s.n) rfl;have M2:=lh (M1.out.set (s':=⟨z,s.w,s.r,s.t⟩) 0 ↑z rfl);clear hb;go_wp2_with fail;go_end0
 exact M2.out.post
theorem CR (b x:Nat) (s:KB) (W:World) (h:Blk W b 217 s.cells) (ho:s.ok):
  Calls prog 185 #[↑(π b),↑x] W (hG W b (.bool (s.spendB x)) (s.spendS x)):=by
 have h0:=h.cell (i:=0) (v:=↑s.n) rfl;have M0:=lh (dK.start h);have y0:=h.free 0;have hn:=ho.1;unfold KB.spendB KB.spendS;clear h ho;by_cases c:x≤s.n
 ·rw [decide_eq_true c,if_pos c]
  have d:decide (s.n < x)=false:=decide_eq_false (by omega);have e':(s.n:Int) - (x:Int)=((s.n - x:Nat):Int):=by omega
  have e:IntKind.u64.wrap ((s.n - x:Nat):Int)=((s.n - x:Nat):Int):=by rw [IntKind.wrap_u64];omega
  generalize s.n - x=z at *;have M2:=lh (M0.out.set (s':=⟨z,s.w,s.r,s.t⟩) 0 ↑z rfl);clear c hn;go_enter func185,ntmps185;go_wp2;go_ret;exact M2.out.post
 ·rw [decide_eq_false c,if_neg c]
  have d:decide (s.n < x)=true:=decide_eq_true (by omega);clear c hn;go_enter func185,ntmps185;go_wp2;go_ret;exact M0.out.post
theorem rY (b x m:Nat) (s:KB) (W:World) (h:Blk W b 217 s.cells) (ho:s.ok) (hx:x≤↑ω) (hmm:m=x∧x≤s.n∨m=s.n∧s.n < x):
  Calls prog 137 #[↑(π b),↑x] W (hG W b ↑m ⟨s.n - m,Pl.addS s.w m,s.r,s.t⟩):=by
 have h0:=h.cell (i:=0) (v:=↑s.n) rfl;have h1:=h.cell (i:=1) (v:=↑s.w) rfl;have M0:=lh (dK.start h);have y0:=h.free 0;have hle:m≤s.n:=by omega
 have hn:=ho.1;have hA:=lh (bU s.w m ho.2.1 (by omega));have e':(s.n:Int) - (m:Int)=((s.n - m:Nat):Int):=by omega
 have e:IntKind.u64.wrap ((s.n - m:Nat):Int)=((s.n - m:Nat):Int):=by rw [IntKind.wrap_u64];omega
 generalize Pl.addS s.w m=z at *;generalize s.n - m=y at *;have M1:=lh (M0.out.set (s':=⟨y,s.w,s.r,s.t⟩) 0 ↑y rfl);clear h ho hx hle hn;rcases hmm with ⟨rfl,c⟩ | ⟨rfl,c⟩
 ·have hm:min (m:Int) (s.n:Int)=(m:Int):=by omega
  go_enter func137,ntmps137;go_wp2_with fail;refine (hA.out _ _ (aN (by simp [World.setCell]) rfl) (aN (by simp [World.setCell]) rfl)).mono ?_;rintro e w1 ⟨rfl,hb⟩;have M2:=lh (M1.out.al hb);have y1:=M2.out.blk.free 1;have c1:=M2.out.blk.cell (i:=1) (v:=↑s.w) rfl;have M3:=lh (M2.out.set (s':=⟨y,z,s.r,s.t⟩) 1 ↑z rfl);clear hb;go_wp2_with fail;go_ret;exact M3.out.post
 ·have hm:min (x:Int) (s.n:Int)=(s.n:Int):=by omega
  go_enter func137,ntmps137;go_wp2_with fail;refine (hA.out _ _ (aN (by simp [World.setCell]) rfl) (aN (by simp [World.setCell]) rfl)).mono ?_;rintro e w1 ⟨rfl,hb⟩;have M2:=lh (M1.out.al hb);have y1:=M2.out.blk.free 1;have c1:=M2.out.blk.cell (i:=1) (v:=↑s.w) rfl;have M3:=lh (M2.out.set (s':=⟨y,z,s.r,s.t⟩) 1 ↑z rfl);clear hb;go_wp2_with fail;go_ret;exact M3.out.post
theorem CT (b x:Nat) (s:KB) (W:World) (h:Blk W b 217 s.cells) (ho:s.ok) (hx:x≤↑ω):
  Calls prog 137 #[↑(π b),↑x] W (hG W b ↑(s.wasteN x) (s.wasteS x)):=
 rY b x (min x s.n) s W h ho hx (by omega)
theorem PQ (b now:Nat) (s:KB) (W:World) (h:Blk W b 217 s.cells) (ho:s.ok) (hn:now≤↑ω):
  Calls prog 72 #[↑(π b),↑now] W (hG W b (.tuple #[]) (s.toS now)):=by
 have h3:=h.cell (i:=3) (v:=↑s.t) rfl;have M0:=lh (dK.start h);unfold KB.toS;by_cases c:now≤s.t
 ·rw [if_pos c]
  have d:decide (now≤s.t)=true:=decide_eq_true c;clear h ho hn c;go_enter func72,ntmps72;go_wp2;exact bodyPost_ret (v:=.tuple #[]) (by simp [results,Tryz.results72,go_sem]) rfl M0.out.post
 ·rw [if_neg c]
  have d:decide (now≤s.t)=false:=decide_eq_false c;have hw:(now:Int) - (s.t:Int)=((now - s.t:Nat):Int):=by omega
  have hww:IntKind.u64.wrap ((now - s.t:Nat):Int)=((now - s.t:Nat):Int):=by rw [IntKind.wrap_u64];omega
  have HM:=lh (fun w=>cB s.r (now - s.t) w ho.2.2.1 (by omega));have HE:Hid (∀w,dK W b s w→Calls prog 130 #[↑(π b),↑(Pl.mulS s.r (now - s.t):Nat)] w fun e w'=>e=.returned (.tuple #[])∧Hid (dK W b ⟨Pl.addS s.n (Pl.mulS s.r (now - s.t)),s.w,s.r,s.t⟩ w')):=
   lh (fun w k=>(IY b _ s w k.blk ho (Pl.mulS_le _ _)).mono fun e w' q=>⟨q.e,lh (k.call q)⟩)
  have M1:=lh M0.out.drew;obtain ⟨r2,r3⟩:=RJ (W:=W) (b:=b) (r:=s.r) (t:=s.t);generalize Pl.addS s.n (Pl.mulS s.r (now - s.t))=z at *;generalize Pl.mulS s.r (now - s.t)=y at *;generalize hl:now - s.t=l at *;clear h ho hn c hl;go_enter func72,ntmps72;go_wp2_with fail;clear h3;go_region_held3 (fun w'=>Hid (wL W b s.r s.t w'))
   (first | exact MQ M1 | assumption)
   (first
    | (go_at_call 131;(refine (HM.out _).mono ?_);rintro e w' ⟨rfl,rfl⟩)
    | (go_at_call 130;(refine (HE.out _ (Hid.out (by assumption))).mono ?_);rintro e w' ⟨rfl,M2⟩;have S2:=MQ M2))
  all_goals
   have M2:=(‹Hid (dK W b ⟨z,s.w,s.r,s.t⟩ _)›);have y3:=M2.out.blk.free 3;have c3:=M2.out.blk.cell (i:=3) (v:=↑s.t) rfl;have M3:=lh (M2.out.set (s':=⟨z,s.w,s.r,now⟩) 3 ↑now rfl);clear r2 r3;go_wp2_with fail;go_end0
   exact M3.out.post
theorem IZ (b x:Nat) (s:KB) (W:World) (h:Blk W b 217 s.cells) (ho:s.ok) (hx:x≤↑ω):
  Calls prog 132 #[↑(π b),↑x] W (hG W b (.bool (s.takeB x)) (s.takeS x)):=by
 have M0:=lh (dK.start h).drew;have HM:Hid (∀w,Calls prog 131 #[↑x,.int .u64 1000000] w fun e w'=>e=.returned ↑(Pl.mulS x 1000000:Nat)∧w=w'):=lh (fun w=>cB x 1000000 w hx (by omega));have HE:Hid (∀w,dK W b s w→Calls prog 185 #[↑(π b),↑(Pl.mulS x 1000000:Nat)] w fun e w'=>e=.returned (.bool (s.takeB x))∧Hid (dK W b (s.takeS x) w')):=
  lh (fun w k=>(CR b _ s w k.blk ho).mono fun e w' q=>⟨q.e,lh (k.call q)⟩)
 clear h ho hx;generalize s.takeB x=r at *;generalize s.takeS x=s' at *;generalize Pl.mulS x 1000000=m at *;go_enter func132,ntmps132;go_wp2_with fail;go_region_held3 (fun w'=>Hid (∃s,dK W b s w'))
  (first | exact lh ⟨_,M0.out⟩ | assumption)
  (first
   | (go_at_call 131;(refine (HM.out _).mono ?_);rintro e w' ⟨rfl,rfl⟩)
   | (go_at_call 185;(refine (HE.out _ (Hid.out (by assumption))).mono ?_);rintro e w' ⟨rfl,M2⟩;have S2:Hid (∃s,dK W b s w'):=lh ⟨_,M2.out⟩))
 all_goals
  have M2:=(‹Hid (dK W b s' _)›);go_wp2_with fail;go_ret;exact M2.out.post
theorem CU (b x:Nat) (s:KB) (W:World) (h:Blk W b 217 s.cells) (ho:s.ok) (hx:x≤↑ω):
  Calls prog 75 #[↑(π b),↑x] W (hG W b ↑(s.wasteN x) (s.wasteS x)):=by
 have HE:=lh (CT b x s W h ho hx);generalize s.wasteN x=r at *;generalize s.wasteS x=s' at *;clear h ho hx;go_enter func75,ntmps75;go_wp2_with fail;refine HE.out.mono ?_;rintro e w' k;obtain rfl:=k.e;have K:=lh k;clear k;go_wp2_with fail;go_ret;exact K.out

def PS.cells (s:PS):Array Value:=#[↑s.r,↑s.q,↑s.t,↑s.s]
theorem NQ (w:World):Calls prog 58 #[] w fun e w'=>e=.returned ↑(π w.heap.size)∧w.alloc (.cells PS.zero.cells 167)=w':=by
 go_enter func58,ntmps58;go_wp2;go_ret;exact ⟨rfl,rfl⟩
theorem oR (x:Nat) (w:World) (hx:x≤↑ω):
  Calls prog 93 #[↑x] w fun e w'=>e=.returned ↑(Pl.mulS x 1000000:Nat)∧w=w':=by
 have HM:Hid (∀w,Calls prog 131 #[↑x,.int .u64 1000000] w fun e w'=>e=.returned ↑(Pl.mulS x 1000000:Nat)∧w=w'):=lh (fun w=>cB x 1000000 w hx (by omega));generalize Pl.mulS x 1000000=m at *;go_enter func93,ntmps93;go_wp2_with (go_at_call 131;refine (HM.out _).mono ?_;rintro e w' ⟨rfl,rfl⟩)
 go_ret;exact ⟨rfl,rfl⟩
theorem yR (r q l:Nat) (w:World) (hr:r≤↑ω) (hl:l≤↑ω):
  Calls prog 125 #[.agg #[↑r,↑q],↑l] w fun e w'=>e=.returned ↑(Pl.mulS r l:Nat)∧Below ↑w w w':=by
 have HM:=lh (fun w=>cB r l w hr hl);generalize Pl.mulS r l=m at *;go_enter func125,ntmps125;go_wp2_with (go_at_call 131;refine (HM.out _).mono ?_;rintro e w' ⟨rfl,rfl⟩)
 go_ret;exact ⟨rfl,aC _ _⟩
theorem I9 (r q:Nat) (w:World) (hq:q≤↑ω):
  Calls prog 126 #[.agg #[↑r,↑q]] w fun e w'=>e=.returned ↑(Pl.mulS q 1000000:Nat)∧Below ↑w w w':=by
 have HM:=lh (fun w=>oR q w hq);generalize Pl.mulS q 1000000=m at *;go_enter func126,ntmps126;go_wp2_with (go_at_call 93;refine (HM.out _).mono ?_;rintro e w' ⟨rfl,rfl⟩)
 go_ret;exact ⟨rfl,aC _ _⟩
structure rZ (w:World) (b:Nat) (r:Value) (s:PS) (e:Ending) (w':World):Prop where
 e:e=.returned r
 blk:Blk w' b 167 s.cells
 gr:w.grownBy w' (some b)
structure cC (W:World) (b:Nat) (s:PS) (w:World):Prop where
 blk:Blk w b 167 s.cells
 gr:W.grownBy w (some b)
theorem cC.start {s:PS} (h:Blk W b 167 s.cells):cC W b s W:=⟨h,bS _ _⟩
theorem cC.drew {W w:World} {b:Nat} {s:PS} (h:cC W b s w):cC W b s w.drew:=⟨h.blk.drew,dP h.gr⟩
theorem cC.to {w:World} {s:PS} (h:cC W b s w) (k:Below ↑w w w'):cC W b s w':=⟨h.blk.keep k,eW h.gr (eX k _)⟩
theorem cC.al {w:World} {s:PS} (h:cC W b s w) (k:Below (w.alloc o).heap.size (w.alloc o) w'):cC W b s w':=(h.to (aC _ _)).to k
theorem cC.ald {w:World} {s:PS} (h:cC W b s w) (k:Below (w.alloc o).drew.heap.size (w.alloc o).drew w'):cC W b s w':=(h.to (cK _ _)).to k
theorem cC.set {W w:World} {b:Nat} {s s':PS} (h:cC W b s w) (i:Nat) (u:Value) (he:s.cells.setIfInBounds i u=s'.cells):cC W b s' (w.setCell ⟨b,i,none⟩ u):=
 ⟨he▸h.blk.set i u,bI h.gr i u⟩
theorem cC.post {w:World} {s:PS} (h:cC W b s w):rZ W b v s (.returned v) w:=⟨rfl,h.blk,h.gr⟩
def sA (W:World) (b r q t:Nat) (w:World):Prop:=∃z,cC W b ⟨r,q,t,z⟩ w
theorem iD {w:World} {r t z:Nat} (h:Hid (cC W b ⟨r,q,t,z⟩ w)):Hid (sA W b r q t w):=lh ⟨z,h.out⟩
theorem RK {r t:Nat}:(∀w,Hid (sA W b r q t w)→w.cell? ⟨b,0,none⟩=some ↑r)∧(∀w,Hid (sA W b r q t w)→w.cell? ⟨b,1,none⟩=some ↑q)∧(∀w,Hid (sA W b r q t w)→w.cell? ⟨b,2,none⟩=some ↑t):=
 ⟨fun w h=>by obtain ⟨z,k⟩:=h.out;exact k.blk.cell rfl,fun w h=>by obtain ⟨z,k⟩:=h.out;exact k.blk.cell rfl,fun w h=>by obtain ⟨z,k⟩:=h.out;exact k.blk.cell rfl⟩
structure PM2 (W:World) (b:Nat) (s:PS) (a x y:Nat) (w:World):Prop where
 m:cC W b s w
 c0:w.cell? ⟨a,0,none⟩=some ↑x
 c1:w.cell? ⟨a,1,none⟩=some ↑y
theorem PM2.to {W w w':World} {b a x y:Nat} {s:PS} (h:PM2 W b s a x y w) (k:Below ↑w w w'):PM2 W b s a x y w':=⟨h.m.to k,aA k h.c0,aA k h.c1⟩
theorem cC.al2 {w:World} {s:PS} (h:cC W b s w) (x y:Nat) (T:TypeId):PM2 W b s w.heap.size x y (w.alloc (.cells #[↑x,↑y] T)):=⟨h.to (aC _ _),(nc2 _ _ _ _).1,(nc2 _ _ _ _).2⟩
theorem uM (b now r q:Nat) (s:PS) (W:World) (h:Blk W b 167 s.cells) (c:now < s.t):
  Calls prog 70 #[↑(π b),↑now,↑r,↑q] W (rZ W b (.int .i64 2) s):=by
 have h2:=h.cell (i:=2) (v:=.int .u64 s.t) rfl;have HM:=lh (cC.start h);have d:decide (now < s.t)=true:=decide_eq_true c;clear h;go_enter func70,ntmps70;go_wp2;go_ret;exact HM.out.post
theorem sB (b now r q:Nat) (s:PS) (W:World) (h:Blk W b 167 s.cells) (ho:s.ok) (hn:now≤↑ω) (hr:r≤↑ω) (hq:q≤↑ω) (c:¬ now < s.t):
  Calls prog 70 #[↑(π b),↑now,↑r,↑q] W (rZ W b (.int .i64 0) (s.tickS now r q)):=by
 have h2:=h.cell (i:=2) (v:=.int .u64 s.t) rfl;have h0:=h.cell (i:=0) (v:=.int .u64 s.r) rfl;have h1:=h.cell (i:=1) (v:=.int .u64 s.q) rfl;have f0:=h.free 0;have f1:=h.free 1;have d:decide (now < s.t)=false:=decide_eq_false c;have hw:(now:Int) - (s.t:Int)=((now - s.t:Nat):Int):=by omega
 have hww:IntKind.u64.wrap ((now - s.t:Nat):Int)=((now - s.t:Nat):Int):=by rw [IntKind.wrap_u64];omega
 have hE:=lh (fun w=>yR r q (now - s.t) w hr (by omega));have hM:=lh (fun w=>I9 r q w hq);have hA:=lh (bU s.s (Pl.mulS r (now - s.t)) ho.2.2.2 (Pl.mulS_le _ _));have hm:min ((Pl.addS s.s (Pl.mulS r (now - s.t)):Nat):Int) ((Pl.mulS q 1000000:Nat):Int)=((min (Pl.addS s.s (Pl.mulS r (now - s.t))) (Pl.mulS q 1000000):Nat):Int):=by omega
 have HT:Hid (s.tickS now r q=⟨r,q,now,min (Pl.addS s.s (Pl.mulS r (now - s.t))) (Pl.mulS q 1000000)⟩):=lh (by unfold PS.tickS;rw [if_neg c]);have M0:=lh ((((cC.start h).set (s':=⟨r,s.q,s.t,s.s⟩) 0 (.int .u64 r) rfl).set (s':=⟨r,q,s.t,s.s⟩) 1 (.int .u64 q) rfl));rw [HT.out];generalize min (Pl.addS s.s (Pl.mulS r (now - s.t))) (Pl.mulS q 1000000)=z at *;generalize Pl.addS s.s (Pl.mulS r (now - s.t))=y at *;generalize Pl.mulS r (now - s.t)=x at *;generalize Pl.mulS q 1000000=m at *;generalize hl:now - s.t=l at *;clear h ho hn hr hq c HT hl;go_enter func70,ntmps70;go_wp2_with fail;generalize (W.setCell ⟨b,0,none⟩ ↑r).setCell ⟨b,1,none⟩ ↑q=w0 at *;have M1:=lh M0.out.drew;obtain ⟨r0,r1,r2⟩:=RK (W:=W) (b:=b) (r:=r) (q:=q) (t:=s.t);clear h0 h1 h2 f0 f1 M0;refine rhd (S:=(fun w'=>Hid (sA W b r q s.t w'))) (iD M1) (fun hHeld=>?_);refine tkc 0 ?_;refine tkc 1 ?_;refine tkc 2 ?_;refine tkc 3 ?_;refine tkc 5 ?_;refine tkc 6 ?_;refine tkc 7 ?_;refine tks 8 ?_;refine tkc 9 ?_;refine tkc 10 ?_;refine tkc 11 ?_;refine tkc 12 ?_;refine tks 13 ?_;refine tkc 14 ?_;refine tkc 18 ?_;refine tkc 19 ?_;refine tkc 20 ?_;refine tks 21 ?_;refine rdy [4,15] ?_;refine cns (fun K hK=>?_) ?_
 ·have c3:=(Hid.out (by assumption):cC W b ⟨r,q,s.t,s.s⟩ _).blk.cell (i:=3) (v:=.int .u64 s.s) rfl
  go_simp;refine bck hK hHeld (fun hHeld=>?_);clear hK;refine rdy [15] ?_;refine cns (fun K hK=>?_) .nil;go_simp;refine (hE.out _).mono ?_;rintro e w2 ⟨rfl,hb⟩;have M2:=lh ((Hid.out (by assumption):cC W b ⟨r,q,s.t,s.s⟩ _).to hb);go_wp2_with fail;refine bck hK (iD M2) (fun hHeld=>?_);clear hK;refine rdy [16] ?_;refine cns (fun K hK=>?_) .nil;have Z1:=lh ((Hid.out (by assumption):cC W b ⟨r,q,s.t,s.s⟩ _).al2 s.s x 22);have M3:=lh Z1.out.m;go_simp;refine bck hK (iD M3) (fun hHeld=>?_);clear hK;refine rdy [17] ?_;refine cns (fun K hK=>?_) .nil;go_simp;refine (hA.out _ _ (Hid.out (by assumption):PM2 W b ⟨r,q,s.t,s.s⟩ _ s.s x _).c0 (Hid.out (by assumption):PM2 W b ⟨r,q,s.t,s.s⟩ _ s.s x _).c1).mono ?_;rintro e w4 ⟨rfl,hb⟩;have M4:=lh ((Hid.out (by assumption):cC W b ⟨r,q,s.t,s.s⟩ _).to hb);go_wp2_with fail;refine bck hK (iD M4) (fun hHeld=>?_);clear hK;refine rdy [22] ?_;refine cns (fun K hK=>?_) .nil;go_simp;refine (hM.out _).mono ?_;rintro e w5 ⟨rfl,hb⟩;have M5:=lh ((Hid.out (by assumption):cC W b ⟨r,q,s.t,s.s⟩ _).to hb);(first | have Z2:=lh ((Hid.out (by assumption):PM2 W b ⟨r,q,s.t,s.s⟩ _ s.s x _).to hb) | skip)
  go_wp2_with fail;refine bck hK (iD M5) (fun hHeld=>?_);clear hK;refine tks 23 ?_;refine tkc 24 ?_;refine tkc 25 ?_;refine rdy [26] ?_;refine cns (fun K hK=>?_) .nil;have y3:=(Hid.out (by assumption):cC W b ⟨r,q,s.t,s.s⟩ _).blk.free 3;have c3:=(Hid.out (by assumption):cC W b ⟨r,q,s.t,s.s⟩ _).blk.cell (i:=3) (v:=.int .u64 s.s) rfl;have M6:=lh ((Hid.out (by assumption):cC W b ⟨r,q,s.t,s.s⟩ _).set (s':=⟨r,q,s.t,z⟩) 3 ↑z rfl);go_simp;refine bck hK (iD M6) (fun hHeld=>?_);clear hK;refine wpAnyH_done (by kernel_rfl) ?_ _;have y2:=M6.out.blk.free 2;have M7:=lh (M6.out.set (s':=⟨r,q,now,z⟩) 2 ↑now rfl);go_wp2_with fail;go_ret;exact M7.out.post
 refine cns (fun K hK=>?_) .nil;go_simp;refine (hE.out _).mono ?_;rintro e w2 ⟨rfl,hb⟩;have M2:=lh ((Hid.out (by assumption):cC W b ⟨r,q,s.t,s.s⟩ _).to hb);go_wp2_with fail;refine bck hK (iD M2) (fun hHeld=>?_);clear hK;refine rdy [4] ?_;refine cns (fun K hK=>?_) .nil;have c3:=(Hid.out (by assumption):cC W b ⟨r,q,s.t,s.s⟩ _).blk.cell (i:=3) (v:=.int .u64 s.s) rfl;go_simp;refine bck hK hHeld (fun hHeld=>?_);clear hK;refine rdy [16] ?_;refine cns (fun K hK=>?_) .nil;have Z1:=lh ((Hid.out (by assumption):cC W b ⟨r,q,s.t,s.s⟩ _).al2 s.s x 22);have M3:=lh Z1.out.m;go_simp;refine bck hK (iD M3) (fun hHeld=>?_);clear hK;refine rdy [17] ?_;refine cns (fun K hK=>?_) .nil;go_simp;refine (hA.out _ _ (Hid.out (by assumption):PM2 W b ⟨r,q,s.t,s.s⟩ _ s.s x _).c0 (Hid.out (by assumption):PM2 W b ⟨r,q,s.t,s.s⟩ _ s.s x _).c1).mono ?_;rintro e w4 ⟨rfl,hb⟩;have M4:=lh ((Hid.out (by assumption):cC W b ⟨r,q,s.t,s.s⟩ _).to hb);go_wp2_with fail;refine bck hK (iD M4) (fun hHeld=>?_);clear hK;refine rdy [22] ?_;refine cns (fun K hK=>?_) .nil;go_simp;refine (hM.out _).mono ?_;rintro e w5 ⟨rfl,hb⟩;have M5:=lh ((Hid.out (by assumption):cC W b ⟨r,q,s.t,s.s⟩ _).to hb);(first | have Z2:=lh ((Hid.out (by assumption):PM2 W b ⟨r,q,s.t,s.s⟩ _ s.s x _).to hb) | skip)
 go_wp2_with fail;refine bck hK (iD M5) (fun hHeld=>?_);clear hK;refine tks 23 ?_;refine tkc 24 ?_;refine tkc 25 ?_;refine rdy [26] ?_;refine cns (fun K hK=>?_) .nil;have y3:=(Hid.out (by assumption):cC W b ⟨r,q,s.t,s.s⟩ _).blk.free 3;have c3:=(Hid.out (by assumption):cC W b ⟨r,q,s.t,s.s⟩ _).blk.cell (i:=3) (v:=.int .u64 s.s) rfl;have M6:=lh ((Hid.out (by assumption):cC W b ⟨r,q,s.t,s.s⟩ _).set (s':=⟨r,q,s.t,z⟩) 3 ↑z rfl);go_simp;refine bck hK (iD M6) (fun hHeld=>?_);clear hK;refine wpAnyH_done (by kernel_rfl) ?_ _;have y2:=M6.out.blk.free 2;have M7:=lh (M6.out.set (s':=⟨r,q,now,z⟩) 2 ↑now rfl);go_wp2_with fail;go_ret;exact M7.out.post
theorem JA (b now r q:Nat) (s:PS) (W:World) (h:Blk W b 167 s.cells) (ho:s.ok) (hn:now≤↑ω) (hr:r≤↑ω) (hq:q≤↑ω):
  Calls prog 70 #[↑(π b),↑now,↑r,↑q] W (rZ W b (.int .i64 (s.tickE now)) (s.tickS now r q)):=by
 unfold PS.tickE;by_cases c:now < s.t
 ·have e:s.tickS now r q=s:=by unfold PS.tickS;rw [if_pos c]
  rw [if_pos c,e];exact uM b now r q s W h c
 ·rw [if_neg c]
  exact sB b now r q s W h ho hn hr hq c
theorem JB (b x:Nat) (s:PS) (W:World) (h:Blk W b 167 s.cells) (ho:s.ok) (hx:x≤↑ω):
  Calls prog 127 #[↑(π b),↑x] W (rZ W b (.bool (s.takeB x)) (s.takeS x)):=by
 have HC:=lh (fun w=>oR x w hx);have M0:=lh (cC.start h).drew;unfold PS.takeB PS.takeS;have hs:=ho.2.2.2;clear h ho hx;by_cases c:Pl.mulS x 1000000≤s.s
 ·rw [decide_eq_true c,if_pos c]
  have d:decide (s.s < Pl.mulS x 1000000)=false:=decide_eq_false (by omega);have e:IntKind.u64.wrap ((s.s - Pl.mulS x 1000000:Nat):Int)=((s.s - Pl.mulS x 1000000:Nat):Int):=by rw [IntKind.wrap_u64];omega
  have e':(s.s:Int) - ((Pl.mulS x 1000000:Nat):Int)=((s.s - Pl.mulS x 1000000:Nat):Int):=by omega
  generalize s.s - Pl.mulS x 1000000=z at *;generalize Pl.mulS x 1000000=m at *;clear c hs;go_enter func127,ntmps127;go_wp2_with fail;have c3:=M0.out.blk.cell (i:=3) (v:=↑s.s) rfl;go_region_held3 (fun w'=>w'.cell? ⟨b,3,none⟩=some ↑s.s∧Hid (cC W b s w'))
   (first | exact ⟨c3,M0⟩ | assumption | exact ⟨by assumption,by assumption⟩)
   (first
    | (go_at_call 93;go_split_ands;(refine (HC.out _).mono ?_);rintro e w' ⟨rfl,rfl⟩))
  all_goals
   go_split_ands
   have M1:=(‹Hid (cC W b s _)›);clear c3 M0;go_wp2_with fail;have M2:=lh M1.out.drew;have c3:=M2.out.blk.cell (i:=3) (v:=↑s.s) rfl;have y3:=M2.out.blk.free 3;have M3:=lh (M2.out.set (s':=⟨s.r,s.q,s.t,z⟩) 3 ↑z rfl);go_region_with (first
    | (go_at_call 93;(refine (HC.out _).mono ?_);rintro e w' ⟨rfl,rfl⟩))
   all_goals
    go_wp2_with fail;go_ret;exact M3.out.post
 ·rw [decide_eq_false c,if_neg c]
  have d:decide (s.s < Pl.mulS x 1000000)=true:=decide_eq_true (by omega);generalize Pl.mulS x 1000000=m at *;clear c hs;go_enter func127,ntmps127;go_wp2_with fail;have c3:=M0.out.blk.cell (i:=3) (v:=↑s.s) rfl;go_region_held3 (fun w'=>w'.cell? ⟨b,3,none⟩=some ↑s.s∧Hid (cC W b s w'))
   (first | exact ⟨c3,M0⟩ | assumption | exact ⟨by assumption,by assumption⟩)
   (first
    | (go_at_call 93;go_split_ands;(refine (HC.out _).mono ?_);rintro e w' ⟨rfl,rfl⟩))
  all_goals
   go_split_ands
   have M1:=(‹Hid (cC W b s _)›);go_wp2_with fail;go_ret;exact M1.out.post
end

section
open Go.RowKit Pl
def iE (w:World) (b:Nat) (s:RaS):Prop:=Blk w b 183 s.cells
theorem pX (d i:Nat) (w:World) (hd:d≤↑ω) (hi:i≤↑ω):
  Calls prog 168 #[↑d,↑i] w fun e w'=>e=.returned ↑(pS d i:Nat)∧aB w w':=by
 by_cases c:i=0
 ·subst c
  have hc:(((0:Nat):Int) == 0)=true:=rfl;go_enter func168,ntmps168;go_wp2;go_ret;exact ⟨rfl,aB.refl _⟩
 ·have hc:((i:Int) == 0)=false:=beq_eq_false_iff_ne.2 (by omega)
  have HN:=lh c;have HS:=lh (iC d 1000000 i w hd (by omega) hi);clear c;have HP:Hid (pS d i=shareS d 1000000 i):=lh (by unfold pS;rw [if_neg HN.out]);generalize shareS d 1000000 i=q at *;go_enter func168,ntmps168;go_wp2_with (go_at_call 86;refine (HS.out).mono ?_;rintro e w' ⟨rfl,k⟩)
  go_ret;exact ⟨bH (by rw [HP.out]),k⟩
theorem CV (a b:St) (w:World):
  Calls prog 167 #[.agg a.cells,.agg b.cells] w fun e w'=>e=.returned (.bool (mJ a b))∧Below ↑w w w':=by
 unfold mJ St.cells;by_cases c:a.deliv=b.deliv
 ·rw [if_pos c]
  have hc:((a.deliv:Int) == (b.deliv:Int))=true:=by rw [c];simp
  clear c;go_enter func167,ntmps167;go_wp2;go_ret;exact ⟨by simp,((Below.refl _ _).alloc (Nat.le_refl _) _).alloc (by simp) _⟩
 ·rw [if_neg c]
  have hc:((a.deliv:Int) == (b.deliv:Int))=false:=beq_eq_false_iff_ne.2 (by omega);clear c;go_enter func167,ntmps167;go_wp2;go_ret;exact ⟨by simp,((Below.refl _ _).alloc (Nat.le_refl _) _).alloc (by simp) _⟩
theorem NR (w:World):Calls prog 57 #[] w fun e w'=>e=.returned ↑(π w.heap.size)∧w.alloc (.cells RaS.zero.cells 183)=w':=by
 go_enter func57,ntmps57;go_wp2;go_ret;exact ⟨rfl,rfl⟩
theorem pY (b:Nat) (s:RaS) (w:World) (h:iE w b s):
  Calls prog 119 #[↑(π b)] w fun e w'=>e=.returned ↑s.n∧w=w':=by
 have h0:=Blk.cell h (i:=0) (v:=↑s.n) rfl;clear h;go_enter func119,ntmps119;go_wp2;go_ret;exact ⟨rfl,rfl⟩
theorem sC (b c:Nat) (p:Option Addr) (v:Value) (w:World):
  Calls prog 65 #[↑(π b),v,.slice p 0 c] w fun e w'=>e=.returned (.tuple #[.agg Smp.zero.cells,.bool false])∧Below ↑w w w':=by
 have HB:=lh (Blk.new w 130 Smp.zero.cells);have HW:=lh ((Below.refl w.heap.size w).alloc (Nat.le_refl _) (.cells Smp.zero.cells 130));unfold Smp.cells Smp.zero at *;go_enter func65,ntmps65;go_wp2;exact bodyPost_ret (aF rfl _ _ w.heap.size 130 _ _ rfl HB.out underlying130 rfl (by kernel_rfl)) rfl ⟨rfl,HW.out⟩
theorem CX (b fl:Nat) (s:RaS) (w:World) (h:iE w b s) (hs:s.ok) (hf:fl≤↑ω):
  Calls prog 129 #[↑(π b),↑fl] w fun e w'=>e=.returned (.tuple #[])∧iE w' b (s.limit fl)∧w.grownBy w' (some b):=by
 have h0:=Blk.cell h (i:=0) (v:=↑s.n) rfl;have h3:=Blk.cell h (i:=3) (v:=↑s.mark) rfl;have f3:=Blk.free h 3;have hlt:=Blk.lt h;have HH:=lh h;have hn:=hs.n;have HA:=lh (gM w w.heap.size 2 s.n fl rfl hn hf);have HB:Hid (Blk (w.alloc (.cells #[↑s.n,↑fl] 22)) b 183 s.cells):=lh (Blk.alloc h _);have HL:Hid ((s.limit fl).mark=max (addS s.n fl) 1):=lh rfl;have HZ:Hid (s.limit fl=⟨s.n,s.last,s.first,(s.limit fl).mark⟩):=lh rfl;clear h hs;generalize (s.limit fl).mark=M at *;generalize s.limit fl=s' at *;generalize addS s.n fl=m at *;have HM:Hid (max (m:Int) 1=(M:Int)):=lh (by have:=HL.out;omega);go_enter func129,ntmps129;go_wp2_with (go_at_call 60;refine (HA.out).mono ?_;rintro e w' ⟨rfl,rfl⟩)
 go_end0
 have:=(Blk.set HH.out 3 (.int .u64 (max (m:Int) 1))).alloc (.cells #[↑s.n,↑fl] 22);refine ⟨rfl,?_,eF (bI (bS _ _) _ _) _⟩;rw [HZ.out];rw [HM.out] at this ⊢;exact this

theorem uN {a w:World} {row:Option Nat} {g:Nat} (h:a.grownBy w row) (hg:↑a≤g) (i:Nat) (u:Value):a.grownBy (w.setCell ⟨g,i,none⟩ u) row:=
 ⟨h.os,h.tape,h.output,Nat.le_trans h.size (by simp [World.setCell]),fun k hk hr=>(Below.heap_setCell _ _ _ _ (by show k≠g;omega)).trans (h.block k hk hr)⟩
theorem fA {a:World} {row:Option Nat} {g:Nat} (hg:↑a≤g):∀(vs:List Value) (o:Nat) (w:World),a.grownBy w row→a.grownBy (w.setCells g o vs) row
 | [],_,_,h=>h
 | v :: r,o,w,h=>fA hg r (o + 1) _ (uN h hg o v)
structure kU (w:World) (b:Nat) (t:St) (s:RaS) (e:Ending) (w':World):Prop where
 e:e=.returned (.agg t.cells)
 blk:iE w' b s
 gr:w.grownBy w' (some b)
theorem nQ (b now fl:Nat) (s:RaS) (w:World) (h:iE w b s) (hf:fl≠0):
  Calls prog 182 #[↑(π b),↑now,↑fl] w (kU w b (s.stampT now) s):=by
 have HB:=lh (Blk.new w 71 #[↑ζ,↑ζ,↑ζ,↑ζ,.bool false]);have HG:=lh (eF (bS w (some b)) (.cells #[↑ζ,↑ζ,↑ζ,↑ζ,.bool false] 71));have HC:=lh (Blk.alloc h (.cells #[↑ζ,↑ζ,↑ζ,↑ζ,.bool false] 71));have HN:Hid (w.heap.size≠b):=lh (by have:=Blk.lt h;omega);have k0:=HC.out.cell (i:=0) (v:=↑s.n) rfl;have k1:=HC.out.cell (i:=1) (v:=↑s.last) rfl;have k2:=HC.out.cell (i:=2) (v:=↑s.first) rfl;have k3:=HC.out.cell (i:=3) (v:=↑s.mark) rfl;have z0:=HB.out.cell (i:=0) (v:=↑ζ) rfl;have z1:=HB.out.cell (i:=1) (v:=↑ζ) rfl;have z2:=HB.out.cell (i:=2) (v:=↑ζ) rfl;have z3:=HB.out.cell (i:=3) (v:=↑ζ) rfl;have z4:=HB.out.cell (i:=4) (v:=.bool false) rfl;have y0:=HB.out.free 0;have y1:=HB.out.free 1;have y2:=HB.out.free 2;have y3:=HB.out.free 3;have y4:=HB.out.free 4;have hlt:=Blk.lt h;have hc:((fl:Int) == 0)=false:=beq_eq_false_iff_ne.2 (by omega);clear h hf;obtain ⟨m,hm⟩:∃m:Bool,decide (s.mark≠0)=m:=⟨_,rfl⟩;have HM:Hid (((s.mark:Int) != 0)=m):=lh (by rw [← hm];by_cases c:s.mark=0 <;> simp [c]);have HT:Hid ((s.stampT now).cells=#[↑now,↑s.first,↑s.n,↑s.last,.bool m]):=lh (by unfold RaS.stampT St.cells;rw [hm]);clear hm;go_enter func182,ntmps182;go_wp2_with fail;generalize (w.alloc (.cells #[↑ζ,↑ζ,↑ζ,↑ζ,.bool false] 71))=wa at *;go_region
 go_wp2_with fail;rw [HM.out];have F1:=(Blk.whole [↑now,↑s.first,↑s.n,↑s.last,.bool m] HB.out rfl).drew;refine bodyPost_ret (aI rfl _ _ w.heap.size 71 _ _ rfl F1 underlying71 rfl (by kernel_rfl)) rfl ⟨by rw [HT.out],?_,?_⟩
 ·exact (Blk.sets_other (fun e=>HN.out e.symm) [↑now,↑s.first,↑s.n,↑s.last,.bool m] 0 _ HC.out).drew
 ·exact dP (fA (Nat.le_refl _) [↑now,↑s.first,↑s.n,↑s.last,.bool m] 0 _ HG.out)
theorem nR (b now:Nat) (s:RaS) (w:World) (h:iE w b s):
  Calls prog 182 #[↑(π b),↑now,↑ζ] w (kU w b ((s.stampS now 0).stampT now) (s.stampS now 0)):=by
 have HN:Hid (w.heap.size≠b):=lh (by have:=Blk.lt h;omega);have HB2:Hid (Blk (((w.setCell ⟨b,2,none⟩ ↑now).setCell ⟨b,1,none⟩ ↑now).alloc (.cells #[↑ζ,↑ζ,↑ζ,↑ζ,.bool false] 71)) w.heap.size 71 #[↑ζ,↑ζ,↑ζ,↑ζ,.bool false]):=lh (by
  have:=Blk.new ((w.setCell ⟨b,2,none⟩ ↑now).setCell ⟨b,1,none⟩ ↑now) 71 #[↑ζ,↑ζ,↑ζ,↑ζ,.bool false];have e:((w.setCell ⟨b,2,none⟩ ↑now).setCell ⟨b,1,none⟩ ↑now).heap.size=w.heap.size:=by simp [World.setCell]
  rw [e] at this;exact this)
 have HC2:Hid (Blk _ b 183 (s.stampS now 0).cells):=lh (((Blk.set h 2 ↑now).set 1 ↑now).alloc (.cells #[↑ζ,↑ζ,↑ζ,↑ζ,.bool false] 71));have HG2:=lh (eF (bI (bI (bS w (some b)) 2 ↑now) 1 ↑now) (.cells #[↑ζ,↑ζ,↑ζ,↑ζ,.bool false] 71));have h1:=Blk.cell h (i:=1) (v:=↑s.last) rfl;have h2:=Blk.cell h (i:=2) (v:=↑s.first) rfl;have hb1:=Blk.free h 1;have hb2:=Blk.free h 2;have hlt:=Blk.lt h;clear h;obtain ⟨m,hm⟩:∃m:Bool,decide (s.mark≠0)=m:=⟨_,rfl⟩;have HM:Hid (((s.mark:Int) != 0)=m):=lh (by rw [← hm];by_cases c:s.mark=0 <;> simp [c]);have HT:Hid (((s.stampS now 0).stampT now).cells=#[↑now,↑now,↑s.n,↑now,.bool m]):=lh (by unfold RaS.stampT St.cells RaS.stampS;rw [if_pos rfl];simp only [hm]);clear hm;go_enter func182,ntmps182;go_wp2_with fail;generalize (((w.setCell ⟨b,2,none⟩ ↑now).setCell ⟨b,1,none⟩ ↑now).alloc (.cells #[↑ζ,↑ζ,↑ζ,↑ζ,.bool false] 71))=wb at *;have k0:=HC2.out.cell (i:=0) (v:=↑s.n) rfl;have k1:=HC2.out.cell (i:=1) (v:=↑now) rfl;have k2:=HC2.out.cell (i:=2) (v:=↑now) rfl;have k3:=HC2.out.cell (i:=3) (v:=↑s.mark) rfl;have z0:=HB2.out.cell (i:=0) (v:=↑ζ) rfl;have z1:=HB2.out.cell (i:=1) (v:=↑ζ) rfl;have z2:=HB2.out.cell (i:=2) (v:=↑ζ) rfl;have z3:=HB2.out.cell (i:=3) (v:=↑ζ) rfl;have z4:=HB2.out.cell (i:=4) (v:=.bool false) rfl;have y0:=HB2.out.free 0;have y1:=HB2.out.free 1;have y2:=HB2.out.free 2;have y3:=HB2.out.free 3;have y4:=HB2.out.free 4;go_region
 go_wp2_with fail;rw [HM.out];have F1:=(Blk.whole [↑now,↑now,↑s.n,↑now,.bool m] HB2.out rfl).drew;refine bodyPost_ret (aI rfl _ _ w.heap.size 71 _ _ rfl F1 underlying71 rfl (by kernel_rfl)) rfl ⟨by rw [HT.out],?_,?_⟩
 ·exact (Blk.sets_other (fun e=>HN.out e.symm) [↑now,↑now,↑s.n,↑now,.bool m] 0 _ HC2.out).drew
 ·exact dP (fA (Nat.le_refl _) [↑now,↑now,↑s.n,↑now,.bool m] 0 _ HG2.out)
theorem CZ (b now fl:Nat) (s:RaS) (w:World) (h:iE w b s):
  Calls prog 182 #[↑(π b),↑now,↑fl] w (kU w b ((s.stampS now fl).stampT now) (s.stampS now fl)):=by
 by_cases c:fl=0
 ·subst c
  exact nR b now s w h
 ·have e:s.stampS now fl=s:=by unfold RaS.stampS;rw [if_neg c]
  rw [e];exact nQ b now fl s w h c

theorem aM {w:World} {p:Addr} (h:w.cell? p=some v):w.drew.cell? p=some v:=h
theorem j5 {w:World} {i L k0 k1 k2 k3 k4:Nat} {u0 u1 u2 u3 u4:Value} (h:w.cell? ⟨b,i,none⟩=some v) (n:b≠L):(((((w.setCell ⟨L,k0,none⟩ u0).setCell ⟨L,k1,none⟩ u1).setCell ⟨L,k2,none⟩ u2).setCell ⟨L,k3,none⟩ u3).setCell ⟨L,k4,none⟩ u4).cell? ⟨b,i,none⟩=some v:=far (far (far (far (far h n) n) n) n) n
theorem oS (a x b cap:Nat) (w:World) (ha:a≤↑ω) (hx:x≤↑ω) (h:w.cell? ⟨b,0,none⟩=some ↑x):
  Calls prog 92 #[↑a,.slice (some ⟨b,0,none⟩) 1 cap] w fun e w'=>e=.returned ↑(subS a x:Nat)∧w=w':=by
 have e:subS a x=lessS a [x]:=by simp [lessS,subS]
 rw [e];have:=vZ (a:Int) b 0 cap [x] w (by omega) (by omega) (by simp) (by simp;omega) (fun i hi=>by
  match i,hi with
  | 0,_=>exact h)
 simpa using this
structure PT (a x r:Nat):Prop where
 any:∀(b:Nat) (W:World),W.cell? ⟨b,0,none⟩=some ↑x→Calls prog 92 #[↑a,.slice (some ⟨b,0,none⟩) 1 1] W fun e w'=>e=.returned ↑r∧W=w'
 plain:∀W:World,Calls prog 92 #[↑a,.slice (some ⟨W.heap.size,0,none⟩) 1 1] (W.alloc (.cells #[↑x] 22)) fun e w'=>e=.returned ↑r∧W.alloc (.cells #[↑x] 22)=w'
 one:∀W:World,Calls prog 92 #[↑a,.slice (some ⟨W.heap.size,0,none⟩) 1 1] (W.alloc (.cells #[↑x] 22)).drew fun e w'=>e=.returned ↑r∧(W.alloc (.cells #[↑x] 22)).drew=w'
 ahead:∀(W:World) (o:Obj),Calls prog 92 #[↑a,.slice (some ⟨W.heap.size,0,none⟩) 1 1] ((W.alloc (.cells #[↑x] 22)).alloc o).drew fun e w'=>e=.returned ↑r∧((W.alloc (.cells #[↑x] 22)).alloc o).drew=w'
 behind:∀(W:World) (o:Obj),Calls prog 92 #[↑a,.slice (some ⟨W.heap.size + 1,0,none⟩) 1 1] ((W.alloc o).alloc (.cells #[↑x] 22)).drew fun e w'=>e=.returned ↑r∧((W.alloc o).alloc (.cells #[↑x] 22)).drew=w'
theorem uO (a x:Nat) (ha:a≤↑ω) (hx:x≤↑ω):PT a x (subS a x):=
 ⟨fun b W h=>oS a x _ 1 _ ha hx h,fun W=>oS a x _ 1 _ ha hx (aN rfl rfl),fun W=>oS a x _ 1 _ ha hx (aM (aN rfl rfl)),fun W o=>oS a x _ 1 _ ha hx (aM (aQ (aN rfl rfl) _)),fun W o=>oS a x _ 1 _ ha hx (aM (aN (by simp) rfl))⟩
theorem yS (now n:Nat) (s:St) (w:World) (hnow:now≤↑ω) (hn:n≤↑ω) (hs:s.ok):
  Calls prog 117 #[↑now,↑n,.agg s.cells] w fun e w'=>e=.returned (.agg (wG now n s).cells)∧Below ↑w w w':=by
 have S1:∀b w,w.cell? ⟨b,0,none⟩=some ↑s.deliv→Calls prog 92 #[↑n,.slice (some ⟨b,0,none⟩) 1 1] w fun e w'=>e=.returned ↑(subS n s.deliv:Nat)∧w=w':=fun b w h=>oS n s.deliv b 1 w hn hs.deliv h;have S2:=uO s.sent s.first hs.sent hs.first;have S3:=uO now s.at_ hnow hs.at_;have S4:=uO now s.sent hnow hs.sent;have S5:∀w,Calls prog 168 #[↑(subS n s.deliv:Nat),↑(ivS now s:Nat)] w fun e w'=>e=.returned ↑(pS (subS n s.deliv) (ivS now s):Nat)∧aB w w':=fun w=>pX _ _ w (by have:=subS_le n s.deliv;omega) (B9 hnow hs);have HIV:Hid (max ((subS s.sent s.first:Nat):Int) ((subS now s.at_:Nat):Int)=((ivS now s:Nat):Int)):=lh (by unfold ivS;omega);have HT:Hid ((wG now n s).cells=#[↑(subS n s.deliv:Nat),↑(ivS now s:Nat),↑(pS (subS n s.deliv) (ivS now s):Nat),↑(subS now s.sent:Nat),.bool s.lim]):=lh rfl;generalize pS (subS n s.deliv) (ivS now s)=d5 at *;generalize subS n s.deliv=d1 at *;generalize subS s.sent s.first=d2 at *;generalize subS now s.at_=d3 at *;generalize subS now s.sent=d4 at *;generalize ivS now s=iv at *;have H1:=lh S1;have H2:=lh S2;have H3:=lh S3;have H4:=lh S4;have H5:=lh S5;clear S1 S2 S3 S4 S5 hs;have A0:=lh (Blk.new w 71 s.cells);have A1:=lh (Blk.new1 w (.cells s.cells 71) 130 #[↑ζ,↑ζ,↑ζ,↑ζ,.bool false]);have AW:=lh (((Below.refl w.heap.size w).alloc (Nat.le_refl _) (.cells s.cells 71)).alloc (by simp) (.cells #[↑ζ,↑ζ,↑ζ,↑ζ,.bool false] 130));have A0':=lh (A0.out.alloc (.cells #[↑ζ,↑ζ,↑ζ,↑ζ,.bool false] 130));unfold St.cells at A0 A1 AW A0' ⊢;have a2:=A0'.out.cell (i:=2) (v:=↑s.deliv) rfl;go_enter func117,ntmps117;go_wp2_with fail;refine (H1.out _ _ (aN (by simp) rfl)).mono ?_;rintro e w1 ⟨rfl,hw1⟩;have B0:=lh (A0'.out.alloc (.cells #[↑s.deliv] 22));have B1:=lh (A1.out.alloc (.cells #[↑s.deliv] 22));have BW:=lh (AW.out.alloc AW.out.size (.cells #[↑s.deliv] 22));rw [hw1] at B0 B1 BW;clear hw1 A0 A1 AW A0' a2 H1;have b0:=B0.out.cell (i:=0) (v:=↑s.sent) rfl;have b1:=B0.out.cell (i:=1) (v:=↑s.first) rfl;have b3:=B0.out.cell (i:=3) (v:=↑s.at_) rfl;have hlt:=B0.out.lt;go_upto_region 2 with fail
 go_cut [8] from 14 to 25 (fun v wx=>v=↑iv∧Below ↑w1 w1 wx)
 case first=>
  have c0:=B0.out.drew.cell (i:=0) (v:=↑s.sent) rfl;have c1:=B0.out.drew.cell (i:=1) (v:=↑s.first) rfl;have c3:=B0.out.drew.cell (i:=3) (v:=↑s.at_) rfl;go_region_held3 (fun w'=>w'.cell? ⟨w.heap.size,0,none⟩=some ↑s.sent∧w'.cell? ⟨w.heap.size,1,none⟩=some ↑s.first∧w'.cell? ⟨w.heap.size,3,none⟩=some ↑s.at_)
   (first | exact ⟨c0,c1,c3⟩ | exact ⟨aM (aQ b0 _),aM (aQ b1 _),aM (aQ b3 _)⟩ | exact ⟨aM (aQ (aQ b0 _) _),aM (aQ (aQ b1 _) _),aM (aQ (aQ b3 _) _)⟩)
   (first | (go_at_call 92;with_reducible refine (H2.out.one _).mono ?_;rintro e w' ⟨rfl,rfl⟩) | (go_at_call 92;with_reducible refine (H2.out.ahead _ _).mono ?_;rintro e w' ⟨rfl,rfl⟩) | (go_at_call 92;with_reducible refine (H2.out.behind _ _).mono ?_;rintro e w' ⟨rfl,rfl⟩) | (go_at_call 92;with_reducible refine (H3.out.one _).mono ?_;rintro e w' ⟨rfl,rfl⟩) | (go_at_call 92;with_reducible refine (H3.out.ahead _ _).mono ?_;rintro e w' ⟨rfl,rfl⟩) | (go_at_call 92;with_reducible refine (H3.out.behind _ _).mono ?_;rintro e w' ⟨rfl,rfl⟩))
  all_goals
   go_wp2_with fail;go_meet
   exact ⟨by rw [HIV.out],((((Below.refl w1.heap.size w1).alloc (Nat.le_refl _) _).alloc (by simp) _).trans ((aB.drew _).below _))⟩
 case rest=>
  obtain ⟨rfl,hbel⟩:=hcut;have C0:=lh (B0.out.keep hbel);have C1:=lh (B1.out.keep hbel);have CW:=lh (aD BW.out hbel BW.out.size);clear hbel B0 B1 BW b0 b1 b3 hlt;have b0:=C0.out.cell (i:=0) (v:=↑s.sent) rfl;have b4:=C0.out.cell (i:=4) (v:=.bool s.lim) rfl;have c0:=aM b0;have c4:=aM b4;have hlt:=C0.out.lt;go_wp2_with fail;have HNE:Hid (w.heap.size≠w.heap.size + 1):=lh (by omega);go_region_held3 (fun w'=>w'.cell? ⟨w.heap.size,0,none⟩=some ↑s.sent∧w'.cell? ⟨w.heap.size,4,none⟩=some (.bool s.lim))
   (first | with_reducible exact ⟨c0,c4⟩ | with_reducible exact ⟨g0,g4⟩ | with_reducible exact ⟨j5 g0 HNE.out,j5 g4 HNE.out⟩ | with_reducible exact ⟨e0,e4⟩ | with_reducible exact ⟨aQ e0 _,aQ e4 _⟩ | with_reducible exact ⟨aM (aQ b0 _),aM (aQ b4 _)⟩)
   (first | (go_at_call 168;refine (H5.out _).mono ?_;rintro e w2 ⟨rfl,k⟩;have HK:=lh k;clear k;have e0:=(HK.out.cell _).trans (by first | exact c0 | exact aM (aQ b0 _));have e4:=(HK.out.cell _).trans (by first | exact c4 | exact aM (aQ b4 _));(try (have cc:w2.cell? ⟨wc.heap.size,0,none⟩=some ↑s.sent:=(HK.out.cell _).trans (aM (aN rfl rfl))))) | (go_at_call 92;with_reducible refine (H4.out.plain _).mono ?_;rintro e w3 ⟨rfl,hw3⟩;have HW3:Hid (Below ↑wc wc w3):=lh (by rw [← hw3];have q:=((aB.drew wc).more HK.out).below wc.heap.size;exact q.alloc q.size _);clear hw3;have D0:=lh (C0.out.keep HW3.out);have D1:=lh (C1.out.keep HW3.out);have g0:=D0.out.cell (i:=0) (v:=↑s.sent) rfl;have g4:=D0.out.cell (i:=4) (v:=.bool s.lim) rfl;have t0:=D1.out.cell (i:=0) (v:=↑ζ) rfl;have y0:=D1.out.free 0;have t1:=D1.out.cell (i:=1) (v:=↑ζ) rfl;have y1:=D1.out.free 1;have t2:=D1.out.cell (i:=2) (v:=↑ζ) rfl;have y2:=D1.out.free 2;have t3:=D1.out.cell (i:=3) (v:=↑ζ) rfl;have y3:=D1.out.free 3;have t4:=D1.out.cell (i:=4) (v:=.bool false) rfl;have y4:=D1.out.free 4) | (go_at_call 92;with_reducible refine (H4.out.any _ _ cc).mono ?_;rintro e w3 ⟨rfl,hw3⟩;have HW3:Hid (Below ↑wc wc w3):=lh (by rw [← hw3];exact ((Below.refl wc.heap.size wc).alloc (Nat.le_refl _) _).trans (((aB.drew _).more HK.out).below _));clear hw3;have D0:=lh (C0.out.keep HW3.out);have D1:=lh (C1.out.keep HW3.out);have g0:=D0.out.cell (i:=0) (v:=↑s.sent) rfl;have g4:=D0.out.cell (i:=4) (v:=.bool s.lim) rfl;have t0:=D1.out.cell (i:=0) (v:=↑ζ) rfl;have y0:=D1.out.free 0;have t1:=D1.out.cell (i:=1) (v:=↑ζ) rfl;have y1:=D1.out.free 1;have t2:=D1.out.cell (i:=2) (v:=↑ζ) rfl;have y2:=D1.out.free 2;have t3:=D1.out.cell (i:=3) (v:=↑ζ) rfl;have y3:=D1.out.free 3;have t4:=D1.out.cell (i:=4) (v:=.bool false) rfl;have y4:=D1.out.free 4))
  all_goals
   have F1:=lh (Blk.whole [↑d1,↑iv,↑d5,↑d4,.bool s.lim] D1.out rfl);have FW:=lh (Below.sets (show ↑w≤w.heap.size + 1 by omega) [↑d1,↑iv,↑d5,↑d4,.bool s.lim] 0 _ (aD CW.out HW3.out CW.out.size));go_wp2_with fail;exact bodyPost_ret (aI rfl _ _ (w.heap.size + 1) 130 _ _ rfl F1.out underlying130 rfl (by kernel_rfl)) rfl ⟨by rw [HT.out],FW.out⟩
end

section
open Go.RowKit
def TS.rd (s:TS):Array Value:=#[↑s.la,↑s.sm,↑s.sp,.bool s.so]
def TS.cells (s:TS):Array Value:=#[↑s.la,↑s.sm,↑s.sp,.bool s.so,.int .i64 (s.n:Int)]
theorem NS (w:World):Calls prog 56 #[] w fun e w'=>e=.returned ↑(π w.heap.size)∧w.alloc (.cells TS.zero.cells 181)=w':=by
 go_enter func56,ntmps56;go_wp2;go_ret;exact ⟨rfl,rfl⟩
structure WiI (W:World) (r x:Array Value) (w:World):Prop where
 p:Blk w W.heap.size 179 r
 z:Blk w (W.heap.size + 1) 179 #[↑ζ,↑ζ,↑ζ,.bool false]
 n:Blk w (W.heap.size + 1 + 1) 179 x
 bel:Below ↑W W w
theorem WiI.start (W:World) (r x:Array Value):WiI W r x (((W.alloc (.cells r 179)).alloc (.cells #[↑ζ,↑ζ,↑ζ,.bool false] 179)).alloc (.cells x 179)):=
 ⟨((Blk.new _ _ _).alloc _).alloc _,(Blk.new1 _ _ _ _).alloc _,by have:=Blk.new ((W.alloc (.cells r 179)).alloc (.cells #[↑ζ,↑ζ,↑ζ,.bool false] 179)) 179 x;simpa using this,(((Below.refl _ _).alloc (Nat.le_refl _) _).alloc (by simp) _).alloc (by simp;omega) _⟩
theorem WiI.to {w:World} {r:Array Value} (h:WiI W r x w) (k:Below ↑w w w'):WiI W r x w':=⟨h.p.keep k,h.z.keep k,h.n.keep k,aD h.bel k h.bel.size⟩
theorem WiI.al {w:World} {r:Array Value} (h:WiI W r x w) (k:Below (w.alloc o).heap.size (w.alloc o) w'):WiI W r x w':=(h.to (aC _ _)).to k
theorem WiI.set {W w:World} {r x x':Array Value} (h:WiI W r x w) (i:Nat) (u:Value) (he:x.setIfInBounds i u=x'):WiI W r x' (w.setCell ⟨W.heap.size + 1 + 1,i,none⟩ u):=
 ⟨h.p.set_other i u (by omega),h.z.set_other i u (by omega),he▸h.n.set i u,h.bel.setCell (p:=⟨W.heap.size + 1 + 1,i,none⟩) (by simp;omega) u⟩
theorem uP (la sm sp x:Nat) (W:World) (hx:x≤↑ω):
  Calls prog 118 #[.agg #[↑la,↑sm,↑sp,.bool false],↑x] W fun e w'=>e=.returned (.agg #[↑x,↑x,↑(x / 2:Nat),.bool true])∧Below ↑W W w':=by
 have hq:IntKind.u64.wrap ((x:Int) / 2)=((x / 2:Nat):Int):=by rw [IntKind.wrap_u64];omega
 have I0:=lh (WiI.start W #[↑la,↑sm,↑sp,.bool false] #[↑x,↑x,↑(x / 2:Nat),.bool true]);generalize x / 2=h at *;clear hx;go_enter func118,ntmps118;go_wp2;exact bodyPost_ret (aI rfl _ _ (W.heap.size + 1) 179 _ _ rfl ((Blk.new1 W _ _ _).alloc _) underlying179 rfl (by kernel_rfl)) rfl ⟨rfl,(((Below.refl _ _).alloc (Nat.le_refl _) _).alloc (by simp) _).alloc (by simp;omega) _⟩
theorem sE (la sm sp x:Nat) (W:World) (hsm:sm≤↑ω) (hsp:sp≤↑ω) (hx:x≤↑ω):
  Calls prog 118 #[.agg #[↑la,↑sm,↑sp,.bool true],↑x] W fun e w'=>e=.returned (.agg #[↑x,↑(Pl.addS (Pl.mulS 7 sm) x / 8:Nat),↑(Pl.addS (Pl.mulS 3 sp) (TS.far sm x) / 4:Nat),.bool true])∧Below ↑W W w':=by
 have hq:IntKind.u64.wrap ((x:Int) / 2)=((x / 2:Nat):Int):=by rw [IntKind.wrap_u64];omega
 have I0:=lh (WiI.start W #[↑la,↑sm,↑sp,.bool true] #[↑x,↑x,↑(x / 2:Nat),.bool true]);have hd:max (sm:Int) (x:Int) - min (sm:Int) (x:Int)=((TS.far sm x:Nat):Int):=by unfold TS.far;omega
 have hfar:TS.far sm x≤18446744073709551615:=by unfold TS.far;omega
 have hdw:IntKind.u64.wrap ((TS.far sm x:Nat):Int)=((TS.far sm x:Nat):Int):=by rw [IntKind.wrap_u64];omega
 have HM3:Hid (∀w,Calls prog 131 #[.int .u64 3,↑sp] w fun e w'=>e=.returned ↑(Pl.mulS 3 sp:Nat)∧w=w'):=lh (fun w=>cB 3 sp w (by omega) hsp);have HM7:Hid (∀w,Calls prog 131 #[.int .u64 7,↑sm] w fun e w'=>e=.returned ↑(Pl.mulS 7 sm:Nat)∧w=w'):=lh (fun w=>cB 7 sm w (by omega) hsm);have HA3:=lh (bU (Pl.mulS 3 sp) (TS.far sm x) (Pl.mulS_le _ _) hfar);have HA7:=lh (bU (Pl.mulS 7 sm) x (Pl.mulS_le _ _) hx);have hq4:IntKind.u64.wrap (((Pl.addS (Pl.mulS 3 sp) (TS.far sm x):Nat):Int) / 4)=((Pl.addS (Pl.mulS 3 sp) (TS.far sm x) / 4:Nat):Int):=by have:=Pl.addS_le (Pl.mulS 3 sp) (TS.far sm x);rw [IntKind.wrap_u64];omega
 have hq8:IntKind.u64.wrap (((Pl.addS (Pl.mulS 7 sm) x:Nat):Int) / 8)=((Pl.addS (Pl.mulS 7 sm) x / 8:Nat):Int):=by have:=Pl.addS_le (Pl.mulS 7 sm) x;rw [IntKind.wrap_u64];omega
 generalize Pl.addS (Pl.mulS 3 sp) (TS.far sm x) / 4=sp' at *;generalize Pl.addS (Pl.mulS 3 sp) (TS.far sm x)=a3 at *;generalize Pl.addS (Pl.mulS 7 sm) x / 8=sm' at *;generalize Pl.addS (Pl.mulS 7 sm) x=a7 at *;generalize Pl.mulS 3 sp=m3 at *;generalize Pl.mulS 7 sm=m7 at *;generalize TS.far sm x=d at *;generalize x / 2=h at *;clear hx hsm hsp hfar;go_enter func118,ntmps118;go_wp2_with fail;generalize ((W.alloc (.cells #[↑la,↑sm,↑sp,.bool true] 179)).alloc (.cells #[↑ζ,↑ζ,↑ζ,.bool false] 179)).alloc (.cells #[↑x,↑x,↑h,.bool true] 179)=w0 at *;refine (HM3.out _).mono ?_;rintro e w1 ⟨rfl,rfl⟩;go_wp2_with fail;refine (HA3.out _ _ (nc2 _ _ _ _).1 (nc2 _ _ _ _).2).mono ?_;rintro e w1 ⟨rfl,hb⟩;have I1:=lh (I0.out.al hb);have y2:=I1.out.n.free 2;have d2:=I1.out.n.cell (i:=2) (v:=↑h) rfl;have p1:=I1.out.p.cell (i:=1) (v:=↑sm) rfl;have I2:=lh (I1.out.set (x':=#[↑x,↑x,↑sp',.bool true]) 2 ↑sp' rfl);clear hb I0 I1;go_wp2_with fail;generalize w1.setCell ⟨W.heap.size + 1 + 1,2,none⟩ ↑sp'=w2 at *;clear y2 d2 p1;refine (HM7.out _).mono ?_;rintro e w3 ⟨rfl,rfl⟩;go_wp2_with fail;refine (HA7.out _ _ (nc2 _ _ _ _).1 (nc2 _ _ _ _).2).mono ?_;rintro e w3 ⟨rfl,hb⟩;have I3:=lh (I2.out.al hb);have y1:=I3.out.n.free 1;have e0:=I3.out.n.cell (i:=0) (v:=↑x) rfl;have e1:=I3.out.n.cell (i:=1) (v:=↑x) rfl;have e2:=I3.out.n.cell (i:=2) (v:=↑sp') rfl;have e3:=I3.out.n.cell (i:=3) (v:=.bool true) rfl;have I4:=lh (I3.out.set (x':=#[↑x,↑sm',↑sp',.bool true]) 1 ↑sm' rfl);have z0:=I4.out.z.cell (i:=0) (v:=↑ζ) rfl;have z1:=I4.out.z.cell (i:=1) (v:=↑ζ) rfl;have z2:=I4.out.z.cell (i:=2) (v:=↑ζ) rfl;have z3:=I4.out.z.cell (i:=3) (v:=.bool false) rfl;have zf0:=I4.out.z.free 0;have zf1:=I4.out.z.free 1;have zf2:=I4.out.z.free 2;have zf3:=I4.out.z.free 3;clear hb I2;go_wp2_with fail;exact bodyPost_ret (aI rfl _ _ (W.heap.size + 1) 179 _ _ rfl ((((I4.out.z.set 0 ↑x).set 1 ↑sm').set 2 ↑sp').set 3 (.bool true)) underlying179 rfl (by kernel_rfl)) rfl
  ⟨rfl,(((I4.out.bel.setCell (p:=⟨W.heap.size + 1,0,none⟩) (by simp) _).setCell (p:=⟨W.heap.size + 1,1,none⟩) (by simp) _).setCell (p:=⟨W.heap.size + 1,2,none⟩) (by simp) _).setCell (p:=⟨W.heap.size + 1,3,none⟩) (by simp) _⟩
theorem JC (s:TS) (x:Nat) (W:World) (h:s.ok) (hx:x≤↑ω):
  Calls prog 118 #[.agg s.rd,↑x] W fun e w'=>e=.returned (.agg (s.put x).rd)∧Below ↑W W w':=by
 obtain ⟨la,sm,sp,so,n⟩:=s;cases so with
 | false=>exact uP la sm sp x W hx
 | true=>exact sE la sm sp x W h.2.1 h.2.2.1 hx
theorem C5 (s:TS) (W:World) (h:s.ok):
  Calls prog 181 #[.agg s.rd] W fun e w'=>e=.returned ↑s.lim0∧Below ↑W W w':=by
 obtain ⟨la,sm,sp,so,n⟩:=s;unfold TS.lim0 TS.rd;dsimp only
 cases so with
 | false=>
   rw [if_neg (by decide)];go_enter func181,ntmps181;go_wp2;go_ret;exact ⟨rfl,aC _ _⟩
 | true=>
   rw [if_pos rfl];have hsm:=h.2.1;have HM:Hid (∀w,Calls prog 131 #[.int .u64 4,↑sp] w fun e w'=>e=.returned ↑(Pl.mulS 4 sp:Nat)∧w=w'):=lh (fun w=>cB 4 sp w (by omega) h.2.2.1);have hle:=Pl.mulS_le 4 sp;have h1:max ((Pl.mulS 4 sp:Nat):Int) 1000=((max (Pl.mulS 4 sp) 1000:Nat):Int):=by omega
   have HA:=lh (bU sm (max (Pl.mulS 4 sp) 1000) hsm (by omega));have h2:max ((Pl.addS sm (max (Pl.mulS 4 sp) 1000):Nat):Int) 10000=((max (Pl.addS sm (max (Pl.mulS 4 sp) 1000)) 10000:Nat):Int):=by omega
   generalize max (Pl.addS sm (max (Pl.mulS 4 sp) 1000)) 10000=z at *;generalize Pl.addS sm (max (Pl.mulS 4 sp) 1000)=y at *;generalize max (Pl.mulS 4 sp) 1000=k at *;generalize Pl.mulS 4 sp=m at *;clear h hle hsm;have I0:=lh (aC W (.cells #[↑la,↑sm,↑sp,.bool true] 179));go_enter func181,ntmps181;go_wp2_with fail;refine (HM.out _).mono ?_;rintro e w1 ⟨rfl,rfl⟩;generalize hw0:W.alloc (.cells #[↑la,↑sm,↑sp,.bool true] 179)=w0 at *;have c1:w0.cell? ⟨W.heap.size,1,none⟩=some ↑sm:=by rw [← hw0];exact aN rfl rfl
   clear hw0;go_wp2_with fail;refine (HA.out _ _ (nc2 _ _ _ _).1 (nc2 _ _ _ _).2).mono ?_;rintro e w1 ⟨rfl,hb⟩;have I1:=lh (aD (aD I0.out (aC _ _) I0.out.size) hb (Nat.le_trans I0.out.size (aC w0 _).size));clear hb;go_wp2_with fail;go_ret;exact ⟨rfl,I1.out⟩
structure MR (w:World) (b:Nat) (r:Value) (s:TS) (e:Ending) (w':World):Prop where
 e:e=.returned r
 blk:Blk w' b 181 s.cells
 gr:w.grownBy w' (some b)
theorem NT (b x:Nat) (s:TS) (W:World) (h:Blk W b 181 s.cells) (ho:s.ok) (hx:x≤↑ω):
  Calls prog 66 #[↑(π b),↑x] W (MR W b (.tuple #[]) (s.put x)):=by
 have HW:=lh (fun w=>JC s x w ho hx);have h0:=h.cell (i:=0) (v:=↑s.la) rfl;have h1:=h.cell (i:=1) (v:=↑s.sm) rfl;have h2:=h.cell (i:=2) (v:=↑s.sp) rfl;have h3:=h.cell (i:=3) (v:=.bool s.so) rfl;have HH:=lh h;have HN:Hid ((s.put x).n=0):=lh (by unfold TS.put;split <;> rfl);unfold TS.rd at HW;generalize s.put x=s' at *;clear h ho hx;go_enter func66,ntmps66;go_wp2_with fail;refine (HW.out _).mono ?_;rintro e w1 ⟨rfl,hb⟩;have B1:=HH.out.keep hb;have HB:=lh B1;have HG:=lh (eX hb (some b));have c0:=B1.cell (i:=0) (v:=↑s.la) rfl;have c1:=B1.cell (i:=1) (v:=↑s.sm) rfl;have c2:=B1.cell (i:=2) (v:=↑s.sp) rfl;have c3:=B1.cell (i:=3) (v:=.bool s.so) rfl;have c4:=B1.cell (i:=4) (v:=.int .i64 (s.n:Int)) rfl;have f0:=B1.free 0;have f1:=B1.free 1;have f2:=B1.free 2;have f3:=B1.free 3;have f4:=B1.free 4;clear hb h0 h1 h2 h3 B1;go_wp2_with fail;refine bodyPost_ret (v:=.tuple #[]) (by simp [results,Tryz.results66,go_sem]) rfl ⟨rfl,?_,bI (bI (bI (bI (bI HG.out _ _) _ _) _ _) _ _) _ _⟩;unfold TS.cells;rw [HN.out];simpa [TS.cells] using ((((HB.out.set 0 ↑s'.la).set 1 ↑s'.sm).set 2 ↑s'.sp).set 3 (.bool s'.so)).set 4 (.int .i64 0)
theorem yT (b:Nat) (s:TS) (W:World) (h:Blk W b 181 s.cells) (ho:s.ok):
  Calls prog 124 #[↑(π b)] W (MR W b (.tuple #[]) s.dbl):=by
 have h4:=h.cell (i:=4) (v:=.int .i64 (s.n:Int)) rfl;have f4:=h.free 4;have hn:=ho.2.2.2;have hw:IntKind.i64.wrap ((s.n:Int) + 1)=(s.n:Int) + 1:=by rw [IntKind.wrap_i64];omega
 have hm:min ((s.n:Int) + 1) 6=((min (s.n + 1) 6:Nat):Int):=by omega
 have HH:=lh h;unfold TS.dbl;generalize min (s.n + 1) 6=k at *;clear h ho hn;go_enter func124,ntmps124;go_wp2;refine bodyPost_ret (v:=.tuple #[]) (by simp [results,Tryz.results124,go_sem]) rfl ⟨rfl,?_,bI (bS _ _) _ _⟩;simpa [TS.cells] using HH.out.set 4 (.int .i64 (k:Int))
theorem mS:(∀(b:Nat) (s:TS) (W:World) (h:Blk W b 181 s.cells) (ho:s.ok),Calls prog 122 #[↑(π b)] W fun e w'=>e=.returned ↑s.del∧Below ↑W W w')∧(∀(b:Nat) (s:TS) (W:World) (h:Blk W b 181 s.cells) (ho:s.ok),Calls prog 123 #[↑(π b)] W fun e w'=>e=.returned ↑s.lim∧Below ↑W W w'):=by
 refine ⟨?_,?_⟩
 have k0v:Hid True:=trivial;rotate_left;rotate_left
 all_goals intro b s W h ho
 all_goals
  have h0:=h.cell (i:=0) (v:=↑s.la) rfl;have h1:=h.cell (i:=1) (v:=↑s.sm) rfl;first
  |revert k0v;intro k0v;have hla:=ho.1;have hsm:=ho.2.1;have HO:Hid (∀w,Calls prog 144 #[.int .u64 9,↑(max s.sm s.la:Nat),.int .u64 8] w fun e w'=>e=.returned ↑(Pl.overS 9 (max s.sm s.la) 8:Nat)∧Below ↑w w w'):=lh (fun w=>iB 9 (max s.sm s.la) 8 w (by omega) (by omega) (by omega));have hm:max (s.sm:Int) (s.la:Int)=((max s.sm s.la:Nat):Int):=by omega
   have hz:max ((Pl.overS 9 (max s.sm s.la) 8:Nat):Int) 1000=((max (Pl.overS 9 (max s.sm s.la) 8) 1000:Nat):Int):=by omega
   unfold TS.del;clear hla hsm ho;generalize max (Pl.overS 9 (max s.sm s.la) 8) 1000=z at *;generalize Pl.overS 9 (max s.sm s.la) 8=y at *;generalize max s.sm s.la=m at *;have HH:=lh h;clear h;go_enter func122,ntmps122
  |have h2:=h.cell (i:=2) (v:=↑s.sp) rfl;have h3:=h.cell (i:=3) (v:=.bool s.so) rfl;have h4:=h.cell (i:=4) (v:=.int .i64 (s.n:Int)) rfl;have hp:2 ^ s.n≤64:=Nat.le_trans (Nat.pow_le_pow_right (by omega) ho.2.2.2) (by decide);have HL:=lh (fun w=>C5 s w ho);have HM:=lh (fun w=>cB s.lim0 (2 ^ s.n) w s.lim0_le (by omega));have hpw:(2:Int) ^ s.n=((2 ^ s.n:Nat):Int):=by rw [Int.natCast_pow];rfl
   have hkey:∀p:Nat,p≤64→IntKind.u64.wrap (p:Int)=(p:Int):=fun p hp=>by rw [IntKind.wrap_u64];omega
   have hww:=hkey _ hp;clear hkey;have hn6:(s.n:Int)≤64:=by have:=ho.2.2.2;omega
   unfold TS.lim;unfold TS.rd at HL;generalize Pl.mulS s.lim0 (2 ^ s.n)=z at *;generalize s.lim0=y at *;generalize 2 ^ s.n=p at *;have HH:=lh h;clear h ho hp;go_enter func123,ntmps123
  go_wp2_with fail;have c0:W.drew.cell? ⟨b,0,none⟩=some ↑s.la:=h0;have c1:W.drew.cell? ⟨b,1,none⟩=some ↑s.sm:=h1;first
  |revert k0v;intro k0v;go_region_held3 (fun w'=>w'.cell? ⟨b,0,none⟩=some ↑s.la∧w'.cell? ⟨b,1,none⟩=some ↑s.sm∧Hid (Below ↑W W w'))
    (first | exact ⟨c0,c1,lh ((aB.drew _).below _)⟩ | exact ⟨aA hb (by assumption),aA hb (by assumption),lh (aD (Hid.out (by assumption)) hb (Hid.out (by assumption):Below ↑W W _).size)⟩)
    (first | (go_at_call 144;go_split_ands;(refine (HO.out _).mono ?_);rintro e w' ⟨rfl,hb⟩))
  |have c2:W.drew.cell? ⟨b,2,none⟩=some ↑s.sp:=h2;have c3:W.drew.cell? ⟨b,3,none⟩=some (.bool s.so):=h3;have c4:W.drew.cell? ⟨b,4,none⟩=some (.int .i64 (s.n:Int)):=h4;go_region_held3 (fun w'=>w'.cell? ⟨b,0,none⟩=some ↑s.la∧w'.cell? ⟨b,1,none⟩=some ↑s.sm∧w'.cell? ⟨b,2,none⟩=some ↑s.sp∧w'.cell? ⟨b,3,none⟩=some (.bool s.so)∧w'.cell? ⟨b,4,none⟩=some (.int .i64 (s.n:Int))∧Hid (Below ↑W W w'))
    (first | exact ⟨c0,c1,c2,c3,c4,lh ((aB.drew _).below _)⟩ | exact ⟨aA hb (by assumption),aA hb (by assumption),aA hb (by assumption),aA hb (by assumption),aA hb (by assumption),lh (aD (Hid.out (by assumption)) hb (Hid.out (by assumption):Below ↑W W _).size)⟩ | assumption)
    (first
     | (go_at_call 181;go_split_ands;(refine (HL.out _).mono ?_);rintro e w' ⟨rfl,hb⟩)
     | (go_at_call 131;go_split_ands;(refine (HM.out _).mono ?_);rintro e w' ⟨rfl,rfl⟩))
  all_goals
   go_split_ands;have G:=(‹Hid (Below ↑W W _)›);go_wp2_with fail;go_ret;exact ⟨rfl,G.out⟩
end
end Go.Proofs.YtjhiooggnpbecaaGreatDoor
