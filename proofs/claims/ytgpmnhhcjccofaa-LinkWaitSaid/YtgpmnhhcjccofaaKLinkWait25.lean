/- 2 texts put together: what each one says stands ahead of it. -/
import Derived.Test.YtgpmnhhcjccofaaKLinkWait02
import Derived.Deep.CutBlock
import Derived.Deep.DeepCutAuto
import Derived.Test.YtgpmnhhcjccofaaKLinkWait04
import Derived.Test.YtgpmnhhcjccofaaKLinkWait03
set_option linter.unusedVariables false
namespace Go.Proofs.Ytgpmnhhcjccofaa
open Go.RowKit Pl
theorem ret2_u64 {a b c d:Int} (h:a=c) (k:b=d):Ending.returned (.tuple #[.int .u64 a,.int .u64 b])=.returned (.tuple #[.int .u64 c,.int .u64 d]):=by rw [h,k]
def restS (a b c:Nat):Nat:=if c≤a * b / 18446744073709551616 then 0 else a * b % c
theorem share_top (a b c:Nat) (h:c≤a * b / 18446744073709551616):shareS a b c=18446744073709551615:=by
 unfold shareS
 split
 ·rfl
 ·have:18446744073709551615≤a * b / c:=by
   rw [Nat.le_div_iff_mul_le (by omega)]
   generalize a * b=p at *
   omega
  omega
theorem share_in (a b c:Nat) (h:a * b / 18446744073709551616 < c):shareS a b c=a * b / c:=by
 unfold shareS
 have:a * b / c≤18446744073709551615:=by
  have:a * b / c < 18446744073709551616:=by
   rw [Nat.div_lt_iff_lt_mul (by omega)]
   generalize a * b=p at *
   omega
  omega
 split <;> omega
theorem over_eq (a b c:Nat):overS a b c=if restS a b c=0 then shareS a b c else addS (shareS a b c) 1:=by
 by_cases h:c≤a * b / 18446744073709551616
 ·rw [share_top a b c h,show restS a b c=0 by unfold restS;rw [if_pos h],if_pos rfl]
  unfold overS
  split
  ·rfl
  ·have:18446744073709551615≤(a * b + (c - 1)) / c:=by
    rw [Nat.le_div_iff_mul_le (by omega)]
    generalize a * b=p at *
    omega
   omega
 ·rw [share_in a b c (by omega),show restS a b c=a * b % c by unfold restS;rw [if_neg h]]
  have hc:0 < c:=by omega
  unfold overS addS
  rw [if_neg (by omega)]
  have e:=Nat.div_add_mod (a * b) c
  have l:=Nat.mod_lt (a * b) hc
  have hb:a * b / c < 18446744073709551616:=by
   rw [Nat.div_lt_iff_lt_mul hc]
   generalize a * b=p at *
   omega
  generalize a * b=p at *
  generalize p / c=q at *
  generalize p % c=r at *
  split
  ·next h0=>
   subst h0
   have:(p + (c - 1)) / c=q:=by
    rw [← e,Nat.add_zero,Nat.mul_add_div hc,Nat.div_eq_of_lt (by omega),Nat.add_zero]
   omega
  ·next h0=>
   have:(p + (c - 1)) / c=q + 1:=by
    rw [← e,Nat.add_assoc,Nat.mul_add_div hc,show r + (c - 1)=c * 1 + (r - 1) by omega,Nat.mul_add_div hc,Nat.div_eq_of_lt (by omega),Nat.add_zero]
   omega
theorem prod_core (x y a b c d:Nat) (xl xh yl yh:Nat) (hx:x=xh * 4294967296 + xl) (hy:y=yh * 4294967296 + yl) (ha:a=xh * yh) (hb:b=xh * yl) (hc:c=xl * yh) (hd:d=xl * yl):
  x * y=a * 18446744073709551616 + (b + c) * 4294967296 + d:=by
 subst hx hy ha hb hc hd
 rw [Lib.split_mul]
set_option maxHeartbeats 400000 in
theorem ref_product (x y:Nat) (w:World) (hx:x≤18446744073709551615) (hy:y≤18446744073709551615):
  Calls Try.prog 49 #[.int .u64 (x:Int),.int .u64 (y:Int)] w fun e w'=>e=.returned (.tuple #[.int .u64 ((x * y / 18446744073709551616:Nat):Int),.int .u64 ((x * y % 18446744073709551616:Nat):Int)])∧w=w':=by
 have e1:(x:Int) % 4294967296=((x % 4294967296:Nat):Int):=by omega
 have e2:(x:Int) / 4294967296=((x / 4294967296:Nat):Int):=by omega
 have e3:(y:Int) % 4294967296=((y % 4294967296:Nat):Int):=by omega
 have e4:(y:Int) / 4294967296=((y / 4294967296:Nat):Int):=by omega
 have hx':x=x / 4294967296 * 4294967296 + x % 4294967296:=by omega
 have hy':y=y / 4294967296 * 4294967296 + y % 4294967296:=by omega
 have lx1:x % 4294967296≤4294967295:=by omega
 have lx2:x / 4294967296≤4294967295:=by omega
 have ly1:y % 4294967296≤4294967295:=by omega
 have ly2:y / 4294967296≤4294967295:=by omega
 generalize x % 4294967296=xl at *
 generalize x / 4294967296=xh at *
 generalize y % 4294967296=yl at *
 generalize y / 4294967296=yh at *
 have p1:(xl:Int) * (yl:Int)=((xl * yl:Nat):Int):=by simp
 have p2:(xh:Int) * (yl:Int)=((xh * yl:Nat):Int):=by simp
 have p3:(xl:Int) * (yh:Int)=((xl * yh:Nat):Int):=by simp
 have p4:(xh:Int) * (yh:Int)=((xh * yh:Nat):Int):=by simp
 have HC:=Lib.hid (prod_core x y _ _ _ _ xl xh yl yh hx' hy' rfl rfl rfl rfl)
 clear hx' hy'
 have bd:=Lib.half_mul_le lx1 ly1
 have bb:=Lib.half_mul_le lx2 ly1
 have bc:=Lib.half_mul_le lx1 ly2
 have ba:=Lib.half_mul_le lx2 ly2
 clear lx1 lx2 ly1 ly2
 generalize xl * yl=d at *
 generalize xh * yl=b at *
 generalize xl * yh=c at *
 generalize xh * yh=a at *
 generalize x * y=p at *
 go_enter Try.func49,Try.ntmps49
 go_wp2
 go_ret2
 have hc:=HC.out
 exact ⟨ret2_u64 (by omega) (by omega),rfl⟩
structure Bits (hi lo c i q r l:Nat):Prop where
 eq:(hi * 18446744073709551616 + lo) * 2 ^ i=(q * c + r) * 18446744073709551616 + l
 r_lt:r < c
 l_lt:l < 18446744073709551616
 q_lt:q < 2 ^ i
theorem bits_start (hi lo c:Nat) (h:hi < c) (hl:lo < 18446744073709551616):Bits hi lo c 0 0 hi lo:=⟨by simp,h,hl,by simp⟩
theorem bits_end {hi lo c q r l:Nat} (b:Bits hi lo c 64 q r l):q=(hi * 18446744073709551616 + lo) / c∧r=(hi * 18446744073709551616 + lo) % c:=by
 have e:=b.eq
 have h1:=b.r_lt
 have h2:=b.l_lt
 rw [show (2:Nat) ^ 64=18446744073709551616 from rfl] at e
 have key:c * q + r=hi * 18446744073709551616 + lo:=by
  rw [Nat.mul_comm c q]
  generalize q * c=A at *
  omega
 have:=(Nat.div_mod_unique (b:=c) (c:=r) (d:=q) (a:=hi * 18446744073709551616 + lo) (by omega)).2 ⟨by omega,h1⟩
 exact ⟨this.1.symm,this.2.symm⟩
theorem bits_next {hi lo c i q r l:Nat} (b:Bits hi lo c i q r l) (bit:Nat) (hb:bit=2 * l / 18446744073709551616) (k:Nat) (hk:k=0∧2 * r + bit < c∨k=1∧c≤2 * r + bit):
  Bits hi lo c (i + 1) (2 * q + k) (2 * r + bit - k * c) (2 * l % 18446744073709551616):=by
 have e:=b.eq
 have h1:=b.r_lt
 have h2:=b.l_lt
 have h3:=b.q_lt
 have hbit:bit≤1:=by omega
 have ep:(hi * 18446744073709551616 + lo) * 2 ^ (i + 1)=2 * ((hi * 18446744073709551616 + lo) * 2 ^ i):=by rw [Nat.pow_succ];rw [← Nat.mul_assoc,Nat.mul_comm]
 refine ⟨?_,?_,by omega,by rw [Nat.pow_succ];omega⟩
 ·rw [ep,e,Nat.add_mul (2 * q) k c]
  have m:2 * q * c=2 * (q * c):=Nat.mul_assoc _ _ _
  rw [m]
  generalize q * c=A at *
  rcases hk with ⟨rfl,hk⟩ | ⟨rfl,hk⟩
  ·simp only [Nat.zero_mul,Nat.sub_zero,Nat.add_zero];omega
  ·simp only [Nat.one_mul];omega
 ·rcases hk with ⟨rfl,hk⟩ | ⟨rfl,hk⟩
  ·simp only [Nat.zero_mul,Nat.sub_zero];exact hk
  ·simp only [Nat.one_mul];omega
def BitRel (hi lo c:Nat) (vl vq vr vi:Value):Prop:=∃i q r l:Nat,i≤64∧vi=.int .i64 (i:Int)∧vq=.int .u64 (q:Int)∧vr=.int .u64 (r:Int)∧vl=.int .u64 (l:Int)∧Bits hi lo c i q r l
set_option maxHeartbeats 1000000 in
theorem ref_divide (hi lo c:Nat) (w:World) (h:hi < c) (hl:lo≤18446744073709551615) (hc:c≤18446744073709551615):
  Calls Try.prog 50 #[.int .u64 (hi:Int),.int .u64 (lo:Int),.int .u64 (c:Int)] w fun e w'=>e=.returned (.tuple #[.int .u64 (((hi * 18446744073709551616 + lo) / c:Nat):Int),.int .u64 (((hi * 18446744073709551616 + lo) % c:Nat):Int)])∧w=w':=by
 have HB:=Lib.hid (bits_start hi lo c h (by omega))
 go_enter Try.func50,Try.ntmps50
 go_wp2
 go_loop [1,8,9,10] (fun vl vq vr vi=>BitRel hi lo c vl vq vr vi) (fun _ _ _ vi=>64 - (intOf vi).toNat)
 case atStart=>exact ⟨0,0,hi,lo,by omega,rfl,rfl,rfl,rfl,HB.out⟩
 case round=>
  obtain ⟨i,q,r,l,hi',rfl,rfl,rfl,rfl,hb⟩:=hrel
  have rl:=hb.r_lt
  have ll:=hb.l_lt
  by_cases hlt:i < 64
  ·have ql:q < 9223372036854775808:=Nat.lt_of_lt_of_le hb.q_lt (Nat.le_trans (Nat.pow_le_pow_right (by omega) (show i≤63 by omega)) (by decide))
   have HBB:=Lib.hid hb
   clear hb
   have e1:IntKind.u64.wrap (2 * (r:Int))=((2 * r % 18446744073709551616:Nat):Int):=by rw [IntKind.wrap_u64];omega
   have e2:IntKind.u64.wrap (2 * (l:Int))=((2 * l % 18446744073709551616:Nat):Int):=by rw [IntKind.wrap_u64];omega
   have r2l:2 * r % 18446744073709551616≤18446744073709551614:=by omega
   have ho:(9223372036854775808≤r∧decide ((9223372036854775808:Int)≤(r:Int))=true)∨(r < 9223372036854775808∧decide ((9223372036854775808:Int)≤(r:Int))=false):=by
    by_cases h:9223372036854775808≤r
    ·exact Or.inl ⟨h,decide_eq_true (by omega)⟩
    ·exact Or.inr ⟨by omega,decide_eq_false (by omega)⟩
   have hb:(9223372036854775808≤l∧decide ((9223372036854775808:Int)≤(l:Int))=true)∨(l < 9223372036854775808∧decide ((9223372036854775808:Int)≤(l:Int))=false):=by
    by_cases h:9223372036854775808≤l
    ·exact Or.inl ⟨h,decide_eq_true (by omega)⟩
    ·exact Or.inr ⟨by omega,decide_eq_false (by omega)⟩
   rcases hb with ⟨hb,tb⟩ | ⟨hb,tb⟩
   ·have N0:=Lib.hid (fun k hk=>bits_next HBB.out 1 (by omega) k hk)
    rcases ho with ⟨ho,t0⟩ | ⟨ho,t0⟩
    ·have e3:IntKind.u64.wrap (((2 * r % 18446744073709551616:Nat):Int) + 1 - (c:Int))=((2 * r + 1 - 1 * c:Nat):Int):=by rw [IntKind.wrap_u64];omega
     have N:=Lib.hid (N0.out 1 (Or.inr ⟨rfl,by omega⟩))
     clear N0 ho hb
     generalize 2 * r + 1 - 1 * c=r4 at *
     generalize 2 * r % 18446744073709551616=r2 at *
     generalize 2 * l % 18446744073709551616=l2 at *
     go_wp2
     go_round
     case rel=>exact ⟨i + 1,2 * q + 1,r4,l2,by omega,by go_num,by go_num,rfl,rfl,N.out⟩
     case measure=>simp [intOf];omega
    ·by_cases hg:c≤2 * r + 1
     ·have tg:decide ((c:Int)≤((2 * r % 18446744073709551616:Nat):Int) + 1)=true:=decide_eq_true (by omega)
      have e3:((2 * r % 18446744073709551616:Nat):Int) + 1 - (c:Int)=((2 * r + 1 - 1 * c:Nat):Int):=by omega
      have N:=Lib.hid (N0.out 1 (Or.inr ⟨rfl,hg⟩))
      have rr:c≤2 * r % 18446744073709551616 + 1:=by omega
      clear N0 ho hb hg
      generalize 2 * r + 1 - 1 * c=r4 at *
      generalize 2 * r % 18446744073709551616=r2 at *
      generalize 2 * l % 18446744073709551616=l2 at *
      go_wp2
      go_round
      case rel=>exact ⟨i + 1,2 * q + 1,r4,l2,by omega,by go_num,by go_num,rfl,rfl,N.out⟩
      case measure=>simp [intOf];omega
     ·have tg:decide ((c:Int)≤((2 * r % 18446744073709551616:Nat):Int) + 1)=false:=decide_eq_false (by omega)
      have e3:((2 * r % 18446744073709551616:Nat):Int) + 1=((2 * r + 1 - 0 * c:Nat):Int):=by omega
      have N:=Lib.hid (N0.out 0 (Or.inl ⟨rfl,by omega⟩))
      have E3:=Lib.hid e3
      clear N0 ho hb hg e3
      generalize 2 * r + 1 - 0 * c=r4 at *
      generalize 2 * r % 18446744073709551616=r2 at *
      generalize 2 * l % 18446744073709551616=l2 at *
      go_wp2
      go_round
      case rel=>exact ⟨i + 1,2 * q + 0,r4,l2,by omega,by go_num,by go_num,by rw [E3.out],rfl,N.out⟩
      case measure=>simp [intOf];omega
   ·have N0:=Lib.hid (fun k hk=>bits_next HBB.out 0 (by omega) k hk)
    rcases ho with ⟨ho,t0⟩ | ⟨ho,t0⟩
    ·have e3:IntKind.u64.wrap (((2 * r % 18446744073709551616:Nat):Int) - (c:Int))=((2 * r + 0 - 1 * c:Nat):Int):=by rw [IntKind.wrap_u64];omega
     have N:=Lib.hid (N0.out 1 (Or.inr ⟨rfl,by omega⟩))
     clear N0 ho hb
     generalize 2 * r + 0 - 1 * c=r4 at *
     generalize 2 * r % 18446744073709551616=r2 at *
     generalize 2 * l % 18446744073709551616=l2 at *
     go_wp2
     go_round
     case rel=>exact ⟨i + 1,2 * q + 1,r4,l2,by omega,by go_num,by go_num,rfl,rfl,N.out⟩
     case measure=>simp [intOf];omega
    ·by_cases hg:c≤2 * r
     ·have tg:decide (c≤2 * r % 18446744073709551616)=true:=decide_eq_true (by omega)
      have e3:((2 * r % 18446744073709551616:Nat):Int) - (c:Int)=((2 * r + 0 - 1 * c:Nat):Int):=by omega
      have N:=Lib.hid (N0.out 1 (Or.inr ⟨rfl,hg⟩))
      have rr:c≤2 * r % 18446744073709551616:=by omega
      clear N0 ho hb hg
      generalize 2 * r + 0 - 1 * c=r4 at *
      generalize 2 * r % 18446744073709551616=r2 at *
      generalize 2 * l % 18446744073709551616=l2 at *
      go_wp2
      go_round
      case rel=>exact ⟨i + 1,2 * q + 1,r4,l2,by omega,by go_num,by go_num,rfl,rfl,N.out⟩
      case measure=>simp [intOf];omega
     ·have tg:decide (c≤2 * r % 18446744073709551616)=false:=decide_eq_false (by omega)
      have N:=Lib.hid (N0.out 0 (Or.inl ⟨rfl,by omega⟩))
      have E3:Hid (2 * r % 18446744073709551616=2 * r + 0 - 0 * c):=Lib.hid (by omega)
      clear N0 ho hb hg
      generalize 2 * r + 0 - 0 * c=r4 at *
      generalize 2 * r % 18446744073709551616=r2 at *
      generalize 2 * l % 18446744073709551616=l2 at *
      go_wp2
      go_round
      case rel=>exact ⟨i + 1,2 * q + 0,r4,l2,by omega,by go_num,by go_num,by rw [E3.out],rfl,N.out⟩
      case measure=>simp [intOf];omega
  ·obtain rfl:i=64:=by omega
   obtain ⟨hq,hr⟩:=bits_end hb
   have HQ:=Lib.hid hq
   have HR:=Lib.hid hr
   clear hq hr hb
   go_wp2
   go_ret2
   exact ⟨ret2_u64 (by rw [HQ.out];simp) (by rw [HR.out];simp),rfl⟩
end Go.Proofs.Ytgpmnhhcjccofaa

set_option linter.unusedVariables false
namespace Go.Proofs.Ytgpmnhhcjccofaa
open Go.RowKit Pl
theorem ref_Over (x y z:Nat) (w:World) (hx:x≤18446744073709551615) (hy:y≤18446744073709551615) (hz:z≤18446744073709551615):
  Calls Try.prog 26 #[.int .u64 (x:Int),.int .u64 (y:Int),.int .u64 (z:Int)] w fun e w'=>e=.returned (.int .u64 ((overS x y z:Nat):Int))∧w=w':=by
 have HM:=Lib.hid (ref_product x y w hx hy)
 have hlo:x * y % 18446744073709551616≤18446744073709551615:=by omega
 have HP:Hid (x * y / 18446744073709551616 * 18446744073709551616 + x * y % 18446744073709551616=x * y):=Lib.hid (by omega)
 have HO:=Lib.hid (over_eq x y z)
 by_cases h:z≤x * y / 18446744073709551616
 ·have HS:=Lib.hid (share_top x y z h)
  have HR:Hid (restS x y z=0):=Lib.hid (by unfold restS;rw [if_pos h])
  generalize x * y / 18446744073709551616=hi at *
  generalize x * y % 18446744073709551616=lo at *
  go_enter Try.func26,Try.ntmps26
  go_wp2_with (go_at_call 49;refine (HM.out).mono ?_;rintro e w' ⟨rfl,rfl⟩)
  go_ret
  exact ⟨ret_u64 (by rw [HO.out,HR.out,if_pos rfl,HS.out];rfl),rfl⟩
 ·have HS:=Lib.hid (share_in x y z (by omega))
  have HR:Hid (restS x y z=x * y % z):=Lib.hid (by unfold restS;rw [if_neg h])
  generalize x * y / 18446744073709551616=hi at *
  generalize x * y % 18446744073709551616=lo at *
  have hd:=ref_divide hi lo z w (by omega) hlo hz
  rw [HP.out,← HS.out,← HR.out] at hd
  have HD:=Lib.hid hd
  have bs:=shareS_le x y z
  clear hd HS HR
  generalize shareS x y z=q at *
  generalize restS x y z=r at *
  by_cases h0:r=0
  ·subst h0
   go_enter Try.func26,Try.ntmps26
   go_wp2_with (first | (go_at_call 49;refine (HM.out).mono ?_;rintro e w' ⟨rfl,rfl⟩) | (go_at_call 50;refine (HD.out).mono ?_;rintro e w' ⟨rfl,rfl⟩))
   go_ret
   exact ⟨ret_u64 (by rw [HO.out];simp),rfl⟩
  ·have h1:0 < r:=by omega
   have HN:=Lib.hid h0
   have HA:=Lib.hid (fun w=>ref_Add q 1 w bs (by omega))
   clear h0
   go_enter Try.func26,Try.ntmps26
   go_wp2_with (first | (go_at_call 49;refine (HM.out).mono ?_;rintro e w' ⟨rfl,rfl⟩) | (go_at_call 50;refine (HD.out).mono ?_;rintro e w' ⟨rfl,rfl⟩) | (go_at_call 13;refine (HA.out _).mono ?_;rintro e w' ⟨rfl,rfl⟩))
   go_ret
   exact ⟨ret_u64 (by rw [HO.out,if_neg HN.out]),rfl⟩
end Go.Proofs.Ytgpmnhhcjccofaa
