/- 5 texts put together: what each one says stands ahead of it. -/
import Derived.Test.YteoepabmnbkabaaGreatDoorKS03
import Derived.Shelf.Spec.BitsCarry
import Derived.Test.YteoepabmnbkabaaGreatDoorKS11
import Derived.Deep.QuietTactic
import Derived.BigQuiet
import Derived.Deep.DeepCutAuto
import Derived.Deep.CutBlock
import Derived.Test.YteoepabmnbkabaaGreatDoorKS04
import Derived.Test.YteoepabmnbkabaaGreatDoorKS12
set_option linter.unusedVariables false
namespace Go.Proofs.YteoepabmnbkabaaGreatDoor
open Go.RowKit Pl
def Guess (v1 v0 u n:Nat) (t x:Value):Prop:=∃a b:Nat,t=.int .u64 (a:Int)∧x=.int .u64 (b:Int)∧Dig v1 v0 u n a b
def Digit (q:Nat) (w:World) (t:Value) (wx:World):Prop:=t=.int .u64 (q:Int)∧w=wx
theorem ret2_u64 {a b c d:Int} (h:a=c) (k:b=d):Ending.returned (.tuple #[.int .u64 a,.int .u64 b])=.returned (.tuple #[.int .u64 c,.int .u64 d]):=by rw [h,k]
set_option maxHeartbeats 1000000 in
set_option maxRecDepth 100000 in
theorem div64_core (hi lo y s v v1 v0 u l n1 n0 q r q1 r1 q' r' q0 r0:Nat) (w:World) (hh:0 < hi) (hy:hi < y) (hl:lo≤18446744073709551615) (hy':y≤18446744073709551615)
  (HLZ:Hid (Calls Tryz.prog 292 #[.int .u64 (y:Int)] w fun e w'=>e=.returned (.int .i64 s)∧w=w'))
  (s63:s≤63)
  (e1:IntKind.u64.wrap ((y:Int) * 2 ^ s)=(v:Int)) (e2:(v:Int) / 4294967296=(v1:Int)) (e3:bits .and .u64 (v:Int) 4294967295=(v0:Int))
  (e4:bits .or .u64 (IntKind.u64.wrap ((hi:Int) * 2 ^ s)) ((lo:Int) / 2 ^ (64 - s))=(u:Int)) (e5:IntKind.u64.wrap ((lo:Int) * 2 ^ s)=(l:Int))
  (e6:(l:Int) / 4294967296=(n1:Int)) (e7:bits .and .u64 (l:Int) 4294967295=(n0:Int)) (e8:(u:Int) / (v1:Int)=(q:Int)) (e9:IntKind.u64.wrap ((u:Int) - IntKind.u64.wrap ((q:Int) * (v1:Int)))=(r:Int))
  (e10:IntKind.u64.wrap (IntKind.u64.wrap (IntKind.u64.wrap ((u:Int) * 4294967296) + (n1:Int)) - IntKind.u64.wrap ((q1:Int) * (v:Int)))=(r1:Int))
  (e11:(r1:Int) / (v1:Int)=(q':Int)) (e12:IntKind.u64.wrap ((r1:Int) - IntKind.u64.wrap ((q':Int) * (v1:Int)))=(r':Int))
  (e13:IntKind.u64.wrap (IntKind.u64.wrap (IntKind.u64.wrap ((r1:Int) * 4294967296) + (n0:Int)) - IntKind.u64.wrap ((q0:Int) * (v:Int)))=(r0:Int))
  (b1:2147483648≤v1) (b1':v1 < 4294967296) (b0:v0 < 4294967296) (bv:v < 18446744073709551616) (bu:u < 18446744073709551616) (bl:l < 18446744073709551616) (bn1:n1 < 4294967296) (bn0:n0 < 4294967296)
  (br1:r1 < 18446744073709551616) (br0:r0 < 18446744073709551616) (bq1:q1 < 4294967296) (bq0:q0 < 4294967296)
  (bq:q≤4294967297) (bq':q'≤4294967297)
  (HU:Hid (u < v1 * 4294967296 + v0)) (HR1:Hid (r1 < v1 * 4294967296 + v0))
  (HQ1:Hid (q1=(u * 4294967296 + n1) / (v1 * 4294967296 + v0))) (HQ0:Hid (q0=(r1 * 4294967296 + n0) / (v1 * 4294967296 + v0)))
  (HD1:Hid (Dig v1 v0 u n1 q r)) (HD0:Hid (Dig v1 v0 r1 n0 q' r')):
  Calls Tryz.prog 280 #[.int .u64 (hi:Int),.int .u64 (lo:Int),.int .u64 (y:Int)] w fun e w'=>e=.returned (.tuple #[.int .u64 ((q1 * 4294967296 + q0:Nat):Int),.int .u64 ((r0 / 2 ^ s:Nat):Int)])∧w=w':=by
 go_enter Tryz.func280,Tryz.ntmps280
 go_upto_block 0 with (go_at_call 292;refine (HLZ.out).mono ?_;rintro e w' ⟨rfl,rfl⟩)
 clear e1 e2 e3 e4 e5 e6 e7 e8 e9
 go_cut [15] (fun t wx=>Digit q1 w t wx)
 case first=>
  go_wp2_with fail
  go_loop [15,16] (fun t x=>Guess v1 v0 u n1 t x) (fun t _=>(intOf t).toNat)
  case atStart=>exact ⟨q,r,rfl,rfl,HD1.out⟩
  case round=>
   obtain ⟨a,b,rfl,rfl,hd⟩:=hrel
   have ab:=hd.q_le
   have bb:=hd.r_lt
   have HDG:=Lib.hid hd
   clear hd
   have hra:(4294967296≤b + v1∧decide ((4294967296:Int)≤(b:Int) + (v1:Int))=true)∨(¬ 4294967296≤b + v1∧decide ((4294967296:Int)≤(b:Int) + (v1:Int))=false):=by
    by_cases h:4294967296≤b + v1
    ·exact Or.inl ⟨h,by simp;omega⟩
    ·exact Or.inr ⟨h,by simp;omega⟩
   by_cases hq:4294967296≤a
   ·obtain ⟨h1a,_⟩:=dig_step b1 b1' HU.out bn1 HDG.out (Or.inl hq)
    have hq2:decide ((4294967296:Int)≤(a:Int))=true:=by simp;omega
    rcases hra with ⟨hr,hr2⟩ | ⟨hr,hr2⟩
    ·have HB:=Lib.hid (dig_break b1 b1' b0 HU.out bn1 HDG.out (Or.inl hq) hr)
     clear hq hr
     go_wp2
     go_meet
     exact ⟨by have x:=HB.out;have y:=HQ1.out;rw [← y] at x;congr 1;omega,rfl⟩
    ·have HB:=Lib.hid (dig_next b1 b1' HU.out bn1 HDG.out (Or.inl hq) (by omega))
     clear hq hr
     go_wp2
     go_round
     case rel=>exact ⟨a - 1,b + v1,by congr 1;omega,by go_num,HB.out⟩
     case measure=>simp [intOf];omega
   ·have hp:a * v0≤4294967295 * 4294967295:=Nat.mul_le_mul (by omega) (by omega)
    have ep:(a:Int) * (v0:Int)=((a * v0:Nat):Int):=by simp
    have hq2:decide ((4294967296:Int)≤(a:Int))=false:=by simp;omega
    have hta:(4294967296 * b + n1 < a * v0∧decide ((4294967296:Int) * (b:Int) + (n1:Int) < ((a * v0:Nat):Int))=true)∨(¬ 4294967296 * b + n1 < a * v0∧decide ((4294967296:Int) * (b:Int) + (n1:Int) < ((a * v0:Nat):Int))=false):=by
     by_cases h:4294967296 * b + n1 < a * v0
     ·exact Or.inl ⟨h,by simp only [decide_eq_true_eq];omega⟩
     ·exact Or.inr ⟨h,by simp only [decide_eq_false_iff_not];omega⟩
    clear hq
    generalize hpp:a * v0=p at *
    have HP:=Lib.hid hpp
    clear hpp
    rcases hta with ⟨ht,ht2⟩ | ⟨ht,ht2⟩
    ·have HT:=Lib.hid ht
     obtain ⟨h1a,_⟩:=dig_step b1 b1' HU.out bn1 HDG.out (Or.inr (by rw [HP.out];exact ht))
     rcases hra with ⟨hr,hr2⟩ | ⟨hr,hr2⟩
     ·have HB:=Lib.hid (dig_break b1 b1' b0 HU.out bn1 HDG.out (Or.inr (by rw [HP.out];exact ht)) hr)
      clear hr ht
      go_wp2
      go_meet
      exact ⟨by have x:=HB.out;have y:=HQ1.out;rw [← y] at x;congr 1;omega,rfl⟩
     ·have HB:=Lib.hid (dig_next b1 b1' HU.out bn1 HDG.out (Or.inr (by rw [HP.out];exact ht)) (by omega))
      clear hr ht
      go_wp2
      go_round
      case rel=>exact ⟨a - 1,b + v1,by congr 1;omega,by go_num,HB.out⟩
      case measure=>simp [intOf];omega
    ·have HB:=Lib.hid (dig_done b1 HDG.out (by rw [HP.out];exact ht))
     clear ht hra
     go_wp2
     go_meet
     exact ⟨by have x:=HB.out;have y:=HQ1.out;rw [← y] at x;rw [x],rfl⟩
 case rest=>
  obtain ⟨rfl,rfl⟩:=hcut
  go_upto_block 2 with (fail)
  clear e10 e11 e12
  go_cut [18] (fun t wx=>Digit q0 w t wx)
  case first=>
   go_wp2_with fail
   go_loop [18,16] (fun t x=>Guess v1 v0 r1 n0 t x) (fun t _=>(intOf t).toNat)
   case atStart=>exact ⟨q',r',rfl,rfl,HD0.out⟩
   case round=>
    obtain ⟨a,b,rfl,rfl,hd⟩:=hrel
    have ab:=hd.q_le
    have bb:=hd.r_lt
    have HDG:=Lib.hid hd
    clear hd
    have hra:(4294967296≤b + v1∧decide ((4294967296:Int)≤(b:Int) + (v1:Int))=true)∨(¬ 4294967296≤b + v1∧decide ((4294967296:Int)≤(b:Int) + (v1:Int))=false):=by
     by_cases h:4294967296≤b + v1
     ·exact Or.inl ⟨h,by simp;omega⟩
     ·exact Or.inr ⟨h,by simp;omega⟩
    by_cases hq:4294967296≤a
    ·obtain ⟨h1a,_⟩:=dig_step b1 b1' HR1.out bn0 HDG.out (Or.inl hq)
     have hq2:decide ((4294967296:Int)≤(a:Int))=true:=by simp;omega
     rcases hra with ⟨hr,hr2⟩ | ⟨hr,hr2⟩
     ·have HB:=Lib.hid (dig_break b1 b1' b0 HR1.out bn0 HDG.out (Or.inl hq) hr)
      clear hq hr
      go_wp2
      go_meet
      exact ⟨by have x:=HB.out;have y:=HQ0.out;rw [← y] at x;congr 1;omega,rfl⟩
     ·have HB:=Lib.hid (dig_next b1 b1' HR1.out bn0 HDG.out (Or.inl hq) (by omega))
      clear hq hr
      go_wp2
      go_round
      case rel=>exact ⟨a - 1,b + v1,by congr 1;omega,by go_num,HB.out⟩
      case measure=>simp [intOf];omega
    ·have hp:a * v0≤4294967295 * 4294967295:=Nat.mul_le_mul (by omega) (by omega)
     have ep:(a:Int) * (v0:Int)=((a * v0:Nat):Int):=by simp
     have hq2:decide ((4294967296:Int)≤(a:Int))=false:=by simp;omega
     have hta:(4294967296 * b + n0 < a * v0∧decide ((4294967296:Int) * (b:Int) + (n0:Int) < ((a * v0:Nat):Int))=true)∨(¬ 4294967296 * b + n0 < a * v0∧decide ((4294967296:Int) * (b:Int) + (n0:Int) < ((a * v0:Nat):Int))=false):=by
      by_cases h:4294967296 * b + n0 < a * v0
      ·exact Or.inl ⟨h,by simp only [decide_eq_true_eq];omega⟩
      ·exact Or.inr ⟨h,by simp only [decide_eq_false_iff_not];omega⟩
     clear hq
     generalize hpp:a * v0=p at *
     have HP:=Lib.hid hpp
     clear hpp
     rcases hta with ⟨ht,ht2⟩ | ⟨ht,ht2⟩
     ·have HT:=Lib.hid ht
      obtain ⟨h1a,_⟩:=dig_step b1 b1' HR1.out bn0 HDG.out (Or.inr (by rw [HP.out];exact ht))
      rcases hra with ⟨hr,hr2⟩ | ⟨hr,hr2⟩
      ·have HB:=Lib.hid (dig_break b1 b1' b0 HR1.out bn0 HDG.out (Or.inr (by rw [HP.out];exact ht)) hr)
       clear hr ht
       go_wp2
       go_meet
       exact ⟨by have x:=HB.out;have y:=HQ0.out;rw [← y] at x;congr 1;omega,rfl⟩
      ·have HB:=Lib.hid (dig_next b1 b1' HR1.out bn0 HDG.out (Or.inr (by rw [HP.out];exact ht)) (by omega))
       clear hr ht
       go_wp2
       go_round
       case rel=>exact ⟨a - 1,b + v1,by congr 1;omega,by go_num,HB.out⟩
       case measure=>simp [intOf];omega
     ·have HB:=Lib.hid (dig_done b1 HDG.out (by rw [HP.out];exact ht))
      clear ht hra
      go_wp2
      go_meet
      exact ⟨by have x:=HB.out;have y:=HQ0.out;rw [← y] at x;rw [x],rfl⟩
  case rest=>
   obtain ⟨rfl,rfl⟩:=hcut
   go_wp2
   go_ret2
   exact ⟨ret2_u64 (by simp) (by simp),rfl⟩
theorem bits_lz (y:Nat) (w:World) (h0:y≠0) (h1:y < 18446744073709551616):
  Calls Tryz.prog 292 #[.int .u64 (y:Int)] w fun e w'=>e=.returned (.int .i64 (lzN y))∧w=w':=by
 have e:=(norm_shift y h0 h1).2.1
 refine (Tryz.bits_LeadingZeros64 (y:Int) w (by omega) (by omega)).mono ?_
 rintro e' w' ⟨rfl,hw⟩
 rw [Int.toNat_natCast,e]
 exact ⟨rfl,hw.symm⟩
theorem cast_mul_pow (a s:Nat):(a:Int) * 2 ^ s=((a * 2 ^ s:Nat):Int):=by simp
theorem cast_div_pow (a s:Nat):(a:Int) / 2 ^ s=((a / 2 ^ s:Nat):Int):=by simp
theorem wrap_rest (u n q v r:Nat) (h:v * q + r=u * 4294967296 + n) (hr:r < 18446744073709551616):
  IntKind.u64.wrap (IntKind.u64.wrap (IntKind.u64.wrap ((u:Int) * 4294967296) + (n:Int)) - IntKind.u64.wrap ((q:Int) * (v:Int)))=(r:Int):=by
 have e:(q:Int) * (v:Int)=((v * q:Nat):Int):=by rw [Nat.mul_comm];simp
 rw [e]
 generalize v * q=A at *
 simp only [IntKind.wrap_u64]
 omega
theorem wrap_rhat (u q v1 r:Nat) (h:v1 * q + r=u) (hu:u < 18446744073709551616):
  IntKind.u64.wrap ((u:Int) - IntKind.u64.wrap ((q:Int) * (v1:Int)))=(r:Int):=by
 have e:(q:Int) * (v1:Int)=((v1 * q:Nat):Int):=by rw [Nat.mul_comm];simp
 rw [e]
 generalize v1 * q=A at *
 simp only [IntKind.wrap_u64]
 omega
theorem div64_big (hi lo y:Nat) (w:World) (hh:0 < hi) (hy:hi < y) (hl:lo≤18446744073709551615) (hy':y≤18446744073709551615):
  Calls Tryz.prog 280 #[.int .u64 (hi:Int),.int .u64 (lo:Int),.int .u64 (y:Int)] w fun e w'=>e=.returned (.tuple #[.int .u64 (((hi * 18446744073709551616 + lo) / y:Nat):Int),.int .u64 (((hi * 18446744073709551616 + lo) % y:Nat):Int)])∧w=w':=by
 have N:=norm_of hi lo y hy (by omega) (by omega)
 have HLZ:=Lib.hid (bits_lz y w (by omega) (by omega))
 obtain ⟨D,M⟩:=div_two hi lo y _ _ _ _ N (by omega)
 rw [D,M]
 generalize hu:hi * 2 ^ lzN y + lo / 2 ^ (64 - lzN y)=u at N
 generalize hL:lo * 2 ^ lzN y % 18446744073709551616=l at N
 generalize hv:y * 2 ^ lzN y=v at N
 generalize lzN y=s at *
 have ev:v=v / 4294967296 * 4294967296 + v % 4294967296:=by omega
 have b1:2147483648≤v / 4294967296:=by have:=N.v_ge;omega
 have b1':v / 4294967296 < 4294967296:=by have:=N.v_lt;omega
 have b0:v % 4294967296 < 4294967296:=by omega
 have n1:l / 4294967296 < 4294967296:=by have:=N.l_lt;omega
 have n0:l % 4294967296 < 4294967296:=by omega
 have hv0:0 < v:=by omega
 have hU:u < v / 4294967296 * 4294967296 + v % 4294967296:=by rw [← ev];exact N.u_lt
 have hR1:(u * 4294967296 + l / 4294967296) % v < v:=Nat.mod_lt _ hv0
 have hR0:((u * 4294967296 + l / 4294967296) % v * 4294967296 + l % 4294967296) % v < v:=Nat.mod_lt _ hv0
 have d1:=dig_start b1 b1' b0 hU n1
 have d0:=dig_start (u:=(u * 4294967296 + l / 4294967296) % v) b1 b1' b0 (by rw [← ev];exact hR1) n0
 have q1:(u * 4294967296 + l / 4294967296) / v < 4294967296:=by have:=quo_lt b1 hU n1;rwa [← ev] at this
 have q0:((u * 4294967296 + l / 4294967296) % v * 4294967296 + l % 4294967296) / v < 4294967296:=by
  have:=quo_lt (u:=(u * 4294967296 + l / 4294967296) % v) b1 (by rw [← ev];exact hR1) n0
  rwa [← ev] at this
 have r1:=Nat.div_add_mod (u * 4294967296 + l / 4294967296) v
 have r0:=Nat.div_add_mod ((u * 4294967296 + l / 4294967296) % v * 4294967296 + l % 4294967296) v
 have vlt:=N.v_lt
 have ult:=N.u_lt
 have llt:=N.l_lt
 have c1:(u * 4294967296 + l / 4294967296) / v=(u * 4294967296 + l / 4294967296) / (v / 4294967296 * 4294967296 + v % 4294967296):=by rw [← ev]
 have c0:((u * 4294967296 + l / 4294967296) % v * 4294967296 + l % 4294967296) / v=((u * 4294967296 + l / 4294967296) % v * 4294967296 + l % 4294967296) / (v / 4294967296 * 4294967296 + v % 4294967296):=by rw [← ev]
 have hR1':(u * 4294967296 + l / 4294967296) % v < v / 4294967296 * 4294967296 + v % 4294967296:=by rw [← ev];exact hR1
 have l1:(u * 4294967296 + l / 4294967296) % v < 18446744073709551616:=Nat.lt_trans hR1 vlt
 have l0:((u * 4294967296 + l / 4294967296) % v * 4294967296 + l % 4294967296) % v < 18446744073709551616:=Nat.lt_trans hR0 vlt
 have ul:u < 18446744073709551616:=Nat.lt_trans ult vlt
 have g1:=wrap_rest _ _ _ _ _ r1 l1
 have g0:=wrap_rest _ _ _ _ _ r0 l0
 have k1:=wrap_rhat _ _ _ _ (Nat.div_add_mod u (v / 4294967296)) ul
 have k0:=wrap_rhat _ _ _ _ (Nat.div_add_mod ((u * 4294967296 + l / 4294967296) % v) (v / 4294967296)) l1
 refine div64_core hi lo y s v (v / 4294967296) (v % 4294967296) u l (l / 4294967296) (l % 4294967296) (u / (v / 4294967296)) (u % (v / 4294967296))
  ((u * 4294967296 + l / 4294967296) / v) ((u * 4294967296 + l / 4294967296) % v) ((u * 4294967296 + l / 4294967296) % v / (v / 4294967296)) ((u * 4294967296 + l / 4294967296) % v % (v / 4294967296))
  (((u * 4294967296 + l / 4294967296) % v * 4294967296 + l % 4294967296) / v) (((u * 4294967296 + l / 4294967296) % v * 4294967296 + l % 4294967296) % v) w hh hy hl hy' HLZ N.s_le
  ?_ ?_ (Mul64.maskN v N.v_lt) ?_ ?_ ?_ (Mul64.maskN l N.l_lt) ?_ k1 g1 (Int.natCast_ediv _ _).symm k0 g0
  b1 b1' b0 N.v_lt ul N.l_lt n1 n0 l1 l0 q1 q0 d1.q_le d0.q_le (Lib.hid hU) (Lib.hid hR1') (Lib.hid c1) (Lib.hid c0) (Lib.hid d1) (Lib.hid d0)
 ·rw [cast_mul_pow,hv,IntKind.wrap_u64];omega
 ·omega
 ·rw [cast_mul_pow,cast_div_pow,Mul64.wrapN _ N.hs,bits_or_u64_nat _ _ N.hs (by have:=N.low;have h2:2 ^ s≤2 ^ 63:=Nat.pow_le_pow_right (by omega) N.s_le;omega),or_add _ _ _ N.low,hu]
 ·rw [cast_mul_pow,Mul64.wrapM,hL]
 ·omega
 ·exact (Int.natCast_ediv _ _).symm
set_option maxHeartbeats 400000 in
theorem div64_small (lo y:Nat) (w:World) (hy:0 < y) (hl:lo≤18446744073709551615) (hy':y≤18446744073709551615):
  Calls Tryz.prog 280 #[.int .u64 0,.int .u64 (lo:Int),.int .u64 (y:Int)] w fun e w'=>e=.returned (.tuple #[.int .u64 ((lo / y:Nat):Int),.int .u64 ((lo % y:Nat):Int)])∧Drawn w w':=by
 have HQ:Hid (IntKind.u64.wrap ((lo:Int) / (y:Int))=((lo / y:Nat):Int)):=Lib.hid (by
  rw [← Int.natCast_ediv]
  exact Mul64.wrapN _ (by have:=Nat.div_le_self lo y;omega))
 go_enter Tryz.func280,Tryz.ntmps280
 go_wp2
 go_quiet (fail)
 go_wp2
 go_ret2
 exact ⟨ret2_u64 (by first | exact HQ.out | simp) (by simp),_,rfl⟩
theorem div64 (hi lo y:Nat) (w:World) (hy:hi < y) (hl:lo≤18446744073709551615) (hy':y≤18446744073709551615):
  Calls Tryz.prog 280 #[.int .u64 (hi:Int),.int .u64 (lo:Int),.int .u64 (y:Int)] w fun e w'=>e=.returned (.tuple #[.int .u64 (((hi * 18446744073709551616 + lo) / y:Nat):Int),.int .u64 (((hi * 18446744073709551616 + lo) % y:Nat):Int)])∧Drawn w w':=by
 by_cases h:hi=0
 ·subst h
  refine (div64_small lo y w hy hl hy').mono ?_
  rintro e w' ⟨rfl,hw⟩
  exact ⟨ret2_u64 (by simp) (by simp),hw⟩
 ·refine (div64_big hi lo y w (by omega) hy hl hy').mono ?_
  rintro e w' ⟨rfl,rfl⟩
  exact ⟨rfl,Drawn.refl _⟩
end Go.Proofs.YteoepabmnbkabaaGreatDoor

set_option linter.unusedVariables false
namespace Go.Proofs.YteoepabmnbkabaaGreatDoor
open Go.RowKit Pl
def restS (a b c:Nat):Nat:=if c≤a * b / 18446744073709551616 then 0 else a * b % c
theorem share_top (a b c:Nat) (h:c≤a * b / 18446744073709551616):shareS a b c=18446744073709551615:=by
 unfold shareS
 split
 ·rfl
 ·have:18446744073709551615≤a * b / c:=by
   rw [Nat.le_div_iff_mul_le (by omega)]
   generalize a * b=p at *
   omega
  omega
theorem share_in (a b c:Nat) (h:a * b / 18446744073709551616 < c):shareS a b c=a * b / c:=by
 unfold shareS
 have:a * b / c≤18446744073709551615:=by
  have:a * b / c < 18446744073709551616:=by
   rw [Nat.div_lt_iff_lt_mul (by omega)]
   generalize a * b=p at *
   omega
  omega
 split <;> omega
set_option maxHeartbeats 400000 in
theorem fix_divide (x y z:Nat) (w:World) (hx:x≤18446744073709551615) (hy:y≤18446744073709551615) (hz:z≤18446744073709551615):
  Calls Tryz.prog 231 #[.int .u64 (x:Int),.int .u64 (y:Int),.int .u64 (z:Int)] w fun e w'=>e=.returned (.tuple #[.int .u64 ((shareS x y z:Nat):Int),.int .u64 ((restS x y z:Nat):Int)])∧Drawn w w':=by
 have HM:=Lib.hid (Tryz.bits_Mul64 x y (by omega) (by omega) w)
 have hlo:x * y % 18446744073709551616≤18446744073709551615:=by omega
 have HP:Hid (x * y / 18446744073709551616 * 18446744073709551616 + x * y % 18446744073709551616=x * y):=Lib.hid (by omega)
 by_cases h:z≤x * y / 18446744073709551616
 ·have HS:=Lib.hid (share_top x y z h)
  have HR:Hid (restS x y z=0):=Lib.hid (by unfold restS;rw [if_pos h])
  generalize x * y / 18446744073709551616=hi at *
  generalize x * y % 18446744073709551616=lo at *
  go_enter Tryz.func231,Tryz.ntmps231
  go_wp2_with (go_at_call 232;refine (HM.out).mono ?_;rintro e w' ⟨rfl,hw⟩;rw [hw])
  go_ret2
  exact ⟨ret2_u64 (by rw [HS.out];rfl) (by rw [HR.out];rfl),Drawn.refl _⟩
 ·have HS:=Lib.hid (share_in x y z (by omega))
  have HR:Hid (restS x y z=x * y % z):=Lib.hid (by unfold restS;rw [if_neg h])
  have hhi:x * y / 18446744073709551616≤18446744073709551615:=by omega
  generalize x * y / 18446744073709551616=hi at *
  generalize x * y % 18446744073709551616=lo at *
  have hd:=div64 hi lo z w (by omega) hlo hz
  rw [HP.out,← HS.out,← HR.out] at hd
  have HD:=Lib.hid hd
  clear hd HS HR
  generalize shareS x y z=q at *
  generalize restS x y z=r at *
  go_enter Tryz.func231,Tryz.ntmps231
  go_wp2_with (first | (go_at_call 232;refine (HM.out).mono ?_;rintro e w' ⟨rfl,hw⟩;rw [hw]) | (go_at_call 280;refine (HD.out).mono ?_;rintro e w'' ⟨rfl,n,rfl⟩))
  go_ret2
  exact ⟨rfl,n,rfl⟩
end Go.Proofs.YteoepabmnbkabaaGreatDoor

set_option linter.unusedVariables false
namespace Go.Proofs.YteoepabmnbkabaaGreatDoor
open Go.RowKit Pl
theorem over_eq (a b c:Nat):overS a b c=if restS a b c=0 then shareS a b c else addS (shareS a b c) 1:=by
 by_cases h:c≤a * b / 18446744073709551616
 ·rw [share_top a b c h,show restS a b c=0 by unfold restS;rw [if_pos h],if_pos rfl]
  unfold overS
  split
  ·rfl
  ·have:18446744073709551615≤(a * b + (c - 1)) / c:=by
    rw [Nat.le_div_iff_mul_le (by omega)]
    generalize a * b=p at *
    omega
   omega
 ·rw [share_in a b c (by omega),show restS a b c=a * b % c by unfold restS;rw [if_neg h]]
  have hc:0 < c:=by omega
  unfold overS addS
  rw [if_neg (by omega)]
  have e:=Nat.div_add_mod (a * b) c
  have l:=Nat.mod_lt (a * b) hc
  have hb:a * b / c < 18446744073709551616:=by
   rw [Nat.div_lt_iff_lt_mul hc]
   generalize a * b=p at *
   omega
  generalize a * b=p at *
  generalize p / c=q at *
  generalize p % c=r at *
  split
  ·next h0=>
   subst h0
   have:(p + (c - 1)) / c=q:=by
    rw [← e,Nat.add_zero,Nat.mul_add_div hc,Nat.div_eq_of_lt (by omega),Nat.add_zero]
   omega
  ·next h0=>
   have:(p + (c - 1)) / c=q + 1:=by
    rw [← e,Nat.add_assoc,Nat.mul_add_div hc,show r + (c - 1)=c * 1 + (r - 1) by omega,Nat.mul_add_div hc,Nat.div_eq_of_lt (by omega),Nat.add_zero]
   omega
set_option maxHeartbeats 400000 in
theorem fix_Over_pl (x y z:Nat) (w:World) (hx:x≤18446744073709551615) (hy:y≤18446744073709551615) (hz:z≤18446744073709551615):
  Calls Tryz.prog 170 #[.int .u64 (x:Int),.int .u64 (y:Int),.int .u64 (z:Int)] w fun e w'=>e=.returned (.int .u64 ((overS x y z:Nat):Int))∧Below w.heap.size w w':=by
 have HD:=Lib.hid (fix_divide x y z w (by omega) (by omega) (by omega))
 have HO:=Lib.hid (over_eq x y z)
 have bs:=shareS_le x y z
 generalize shareS x y z=q at *
 generalize restS x y z=r at *
 by_cases h:r=0
 ·subst h
  go_enter Tryz.func170,Tryz.ntmps170
  go_wp2_with (go_at_call 231;refine (HD.out).mono ?_;rintro e w'' ⟨rfl,n,rfl⟩)
  go_ret
  exact ⟨ret_u64 (by rw [HO.out];simp),Drawn.below ⟨n,rfl⟩ _⟩
 ·have h':((r:Int) == 0)=false:=beq_eq_false_iff_ne.2 (by omega)
  have HN:=Lib.hid h
  clear h
  go_enter Tryz.func170,Tryz.ntmps170
  go_wp2_with (first | (go_at_call 231;refine (HD.out).mono ?_;rintro e w'' ⟨rfl,n,rfl⟩) | (go_at_call 57;refine (fix_Add2 _ _ _ (q:Int) 1 rfl (by omega) (by omega) (by omega) (by omega)).mono ?_;rintro e w'' ⟨rfl,rfl⟩))
  go_ret
  exact ⟨ret_u64 (by rw [HO.out,if_neg HN.out]),(Drawn.below ⟨n,rfl⟩ _).alloc (Nat.le_refl _) _⟩
end Go.Proofs.YteoepabmnbkabaaGreatDoor

set_option linter.unusedVariables false
namespace Go.Proofs.YteoepabmnbkabaaGreatDoor
open Go.RowKit Pl
theorem fix_Share (a b c:Int) (w:World) (ha0:0≤a) (ha:a≤18446744073709551615) (hb0:0≤b) (hb:b≤18446744073709551615) (hc0:0≤c) (hc:c≤18446744073709551615):
  Calls Tryz.prog 163 #[.int .u64 a,.int .u64 b,.int .u64 c] w fun e w'=>e=.returned (.int .u64 ((shareS a.toNat b.toNat c.toNat:Nat):Int))∧Drawn w w':=by
 obtain ⟨x,rfl⟩:=Int.eq_ofNat_of_zero_le ha0
 obtain ⟨y,rfl⟩:=Int.eq_ofNat_of_zero_le hb0
 obtain ⟨z,rfl⟩:=Int.eq_ofNat_of_zero_le hc0
 simp only [Int.toNat_natCast]
 have HD:=Lib.hid (fix_divide x y z w (by omega) (by omega) (by omega))
 clear ha0 ha hb0 hb hc0 hc
 go_enter Tryz.func163,Tryz.ntmps163
 go_wp2_with (go_at_call 231;refine (HD.out).mono ?_;rintro e w'' ⟨rfl,n,rfl⟩)
 go_ret
 exact ⟨rfl,n,rfl⟩
theorem fix_Share_n (x y z:Nat) (w:World) (hx:x≤18446744073709551615) (hy:y≤18446744073709551615) (hz:z≤18446744073709551615):
  Calls Tryz.prog 163 #[.int .u64 (x:Int),.int .u64 (y:Int),.int .u64 (z:Int)] w fun e w'=>e=.returned (.int .u64 ((shareS x y z:Nat):Int))∧Drawn w w':=by
 have h:=fix_Share (x:Int) (y:Int) (z:Int) w (by omega) (by omega) (by omega) (by omega) (by omega) (by omega)
 simpa only [Int.toNat_natCast] using h
theorem share_b (x y z:Nat) (w:World) (hx:x≤18446744073709551615) (hy:y≤18446744073709551615) (hz:z≤18446744073709551615):
  Calls Tryz.prog 163 #[.int .u64 (x:Int),.int .u64 (y:Int),.int .u64 (z:Int)] w fun e w'=>e=.returned (.int .u64 ((shareS x y z:Nat):Int))∧Below w.heap.size w w':=
 (fix_Share_n x y z w hx hy hz).mono fun _ _ h=>⟨h.1,h.2.below _⟩
end Go.Proofs.YteoepabmnbkabaaGreatDoor

set_option linter.unusedVariables false
namespace Go.Proofs.YteoepabmnbkabaaGreatDoor
open Go.RowKit Pl
def paceG (k x:Nat):Nat:=shareS x (rateG k) 100
def windowG (k x:Nat):Nat:=overS x (flightG k) 100
theorem gains_f0 (a b:Int) (w:World):(Instr.field 250 (.agg #[.int .u64 a,.int .u64 b]) 0).run Tryz.prog w=.ok (.int .u64 a) w:=by kernel_rfl
theorem gains_f1 (a b:Int) (w:World):(Instr.field 250 (.agg #[.int .u64 a,.int .u64 b]) 1).run Tryz.prog w=.ok (.int .u64 b) w:=by kernel_rfl
theorem ga_Pace (s:Int) (x:Nat) (hx:x≤18446744073709551615) (w:World) (hg:Gl w):
  Calls Tryz.prog 98 #[.int .i64 s,.int .u64 (x:Int)] w fun e w'=>e=.returned (.int .u64 (paceG (stG s) x:Int))∧Below w.heap.size w w':=by
 have HO:=Lib.hid (ga_of s w hg)
 have hf:=gains_f0
 have ha:=rateG_le (stG s)
 have HS:=Lib.hid (fun w=>share_b x (rateG (stG s)) 100 w hx (by omega) (by omega))
 have HE:Hid (paceG (stG s) x=shareS x (rateG (stG s)) 100):=Lib.hid rfl
 generalize rateG (stG s)=a at *
 generalize flightG (stG s)=b at *
 generalize paceG (stG s) x=p at *
 generalize shareS x a 100=q at *
 clear hg ha hx
 go_enter Tryz.func98,Tryz.ntmps98
 go_wp2_with (first
  | (go_at_call 166;refine (HO.out).mono ?_;rintro e w' ⟨rfl,hb⟩;have HB:=Lib.hid hb;clear hb)
  | (go_at_call 163;refine (HS.out _).mono ?_;rintro e w2 ⟨rfl,hb⟩;have HB2:=Lib.hid hb;clear hb))
 go_ret
 exact ⟨ret_u64 (by rw [HE.out]),bnext HB.out HB2.out⟩
theorem ga_Window (s:Int) (x:Nat) (hx:x≤18446744073709551615) (w:World) (hg:Gl w):
  Calls Tryz.prog 252 #[.int .i64 s,.int .u64 (x:Int)] w fun e w'=>e=.returned (.int .u64 (windowG (stG s) x:Int))∧Below w.heap.size w w':=by
 have HO:=Lib.hid (ga_of s w hg)
 have hf:=gains_f1
 have ha:=flightG_le (stG s)
 have HS:=Lib.hid (fun w=>fix_Over_pl x (flightG (stG s)) 100 w hx (by omega) (by omega))
 have HE:Hid (windowG (stG s) x=overS x (flightG (stG s)) 100):=Lib.hid rfl
 generalize flightG (stG s)=b at *
 generalize rateG (stG s)=a at *
 generalize windowG (stG s) x=p at *
 generalize overS x b 100=q at *
 clear hg ha hx
 go_enter Tryz.func252,Tryz.ntmps252
 go_wp2_with (first
  | (go_at_call 166;refine (HO.out).mono ?_;rintro e w' ⟨rfl,hb⟩;have HB:=Lib.hid hb;clear hb)
  | (go_at_call 170;refine (HS.out _).mono ?_;rintro e w2 ⟨rfl,hb⟩;have HB2:=Lib.hid hb;clear hb))
 go_ret
 exact ⟨ret_u64 (by rw [HE.out]),bnext HB.out HB2.out⟩
end Go.Proofs.YteoepabmnbkabaaGreatDoor
