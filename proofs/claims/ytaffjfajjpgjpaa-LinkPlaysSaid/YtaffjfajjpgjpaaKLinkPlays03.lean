/- 3 texts put together: what each one says stands ahead of it. -/
import Derived.Test.YtaffjfajjpgjpaaProg
import Derived.Test.YtaffjfajjpgjpaaKLinkPlays01
import Derived.Test.YtaffjfajjpgjpaaKLinkPlays02
import Derived.WalkKit
import Derived.WalkLawsBesides
import Derived.Lib.Hide
import Derived.Outline
set_option linter.unusedVariables false
namespace Go.Proofs.Ytaffjfajjpgjpaa
open Go.RowKit Pl
def Row (w:World) (b off:Nat) (zs:List Nat):Prop:=∀i,i < zs.length→w.cell? ⟨b,off + i,none⟩=some (.int .u64 ((zs.getD i 0:Nat):Int))
theorem take_succ_sum (zs:List Nat) (k:Nat) (h:k < zs.length):(zs.take (k + 1)).sum=(zs.take k).sum + zs.getD k 0:=by
 rw [List.take_succ_eq_append_getElem h,List.sum_append]
 simp [List.getD_eq_getElem?_getD,h]
theorem take_sum_le (zs:List Nat) (k:Nat):(zs.take k).sum≤zs.sum:=by
 conv=>rhs;rw [← List.take_append_drop k zs,List.sum_append]
 omega
theorem Row.bd {zs:List Nat} (h:∀z∈zs,z≤18446744073709551615) (k:Nat):zs.getD k 0≤18446744073709551615:=by
 rw [List.getD_eq_getElem?_getD]
 cases e:zs[k]? with
 | none=>simp
 | some z=>exact h z (List.mem_of_getElem? e)
end Go.Proofs.Ytaffjfajjpgjpaa

set_option linter.unusedVariables false
namespace Go.Proofs.Ytaffjfajjpgjpaa
open Go.RowKit Pl
theorem ref_Add (a b:Nat) (w:World) (ha:a≤18446744073709551615) (hb:b≤18446744073709551615):
  Calls Try.prog 10 #[.int .u64 (a:Int),.int .u64 (b:Int)] w fun e w'=>e=.returned (.int .u64 ((addS a b:Nat):Int))∧w=w':=by
 by_cases h:18446744073709551615 < a + b
 ·have t:decide ((18446744073709551615:Int) - (b:Int) < (a:Int))=true:=decide_eq_true (by omega)
  have HE:Hid (addS a b=18446744073709551615):=Lib.hid (by unfold addS;omega)
  clear h
  go_enter Try.func10,Try.ntmps10
  go_wp2
  go_ret
  exact ⟨ret_u64 (by rw [HE.out];rfl),rfl⟩
 ·have t:decide ((18446744073709551615:Int) - (b:Int) < (a:Int))=false:=decide_eq_false (by omega)
  have HE:Hid (addS a b=a + b):=Lib.hid (by unfold addS;omega)
  have h':a + b≤18446744073709551615:=by omega
  clear h
  go_enter Try.func10,Try.ntmps10
  go_wp2
  go_ret
  exact ⟨ret_u64 (by rw [HE.out];simp),rfl⟩
end Go.Proofs.Ytaffjfajjpgjpaa

set_option linter.unusedVariables false
namespace Go.Proofs.Ytaffjfajjpgjpaa
open Go.RowKit Pl
theorem ret2m_u64 {a b c d:Int} (h:a=c) (k:b=d):Ending.returned (.tuple #[.int .u64 a,.int .u64 b])=.returned (.tuple #[.int .u64 c,.int .u64 d]):=by rw [h,k]
theorem prod_core (x y a b c d:Nat) (xl xh yl yh:Nat) (hx:x=xh * 4294967296 + xl) (hy:y=yh * 4294967296 + yl) (ha:a=xh * yh) (hb:b=xh * yl) (hc:c=xl * yh) (hd:d=xl * yl):
  x * y=a * 18446744073709551616 + (b + c) * 4294967296 + d:=by
 subst hx hy ha hb hc hd
 rw [Lib.split_mul]
set_option maxHeartbeats 400000 in
theorem ref_product (x y:Nat) (w:World) (hx:x≤18446744073709551615) (hy:y≤18446744073709551615):
  Calls Try.prog 83 #[.int .u64 (x:Int),.int .u64 (y:Int)] w fun e w'=>e=.returned (.tuple #[.int .u64 ((x * y / 18446744073709551616:Nat):Int),.int .u64 ((x * y % 18446744073709551616:Nat):Int)])∧w=w':=by
 have e1:(x:Int) % 4294967296=((x % 4294967296:Nat):Int):=by omega
 have e2:(x:Int) / 4294967296=((x / 4294967296:Nat):Int):=by omega
 have e3:(y:Int) % 4294967296=((y % 4294967296:Nat):Int):=by omega
 have e4:(y:Int) / 4294967296=((y / 4294967296:Nat):Int):=by omega
 have hx':x=x / 4294967296 * 4294967296 + x % 4294967296:=by omega
 have hy':y=y / 4294967296 * 4294967296 + y % 4294967296:=by omega
 have lx1:x % 4294967296≤4294967295:=by omega
 have lx2:x / 4294967296≤4294967295:=by omega
 have ly1:y % 4294967296≤4294967295:=by omega
 have ly2:y / 4294967296≤4294967295:=by omega
 generalize x % 4294967296=xl at *
 generalize x / 4294967296=xh at *
 generalize y % 4294967296=yl at *
 generalize y / 4294967296=yh at *
 have p1:(xl:Int) * (yl:Int)=((xl * yl:Nat):Int):=by simp
 have p2:(xh:Int) * (yl:Int)=((xh * yl:Nat):Int):=by simp
 have p3:(xl:Int) * (yh:Int)=((xl * yh:Nat):Int):=by simp
 have p4:(xh:Int) * (yh:Int)=((xh * yh:Nat):Int):=by simp
 have HC:=Lib.hid (prod_core x y _ _ _ _ xl xh yl yh hx' hy' rfl rfl rfl rfl)
 clear hx' hy'
 have bd:=Lib.half_mul_le lx1 ly1
 have bb:=Lib.half_mul_le lx2 ly1
 have bc:=Lib.half_mul_le lx1 ly2
 have ba:=Lib.half_mul_le lx2 ly2
 clear lx1 lx2 ly1 ly2
 generalize xl * yl=d at *
 generalize xh * yl=b at *
 generalize xl * yh=c at *
 generalize xh * yh=a at *
 generalize x * y=p at *
 go_enter Try.func83,Try.ntmps83
 go_wp2
 go_ret2
 have hc:=HC.out
 exact ⟨ret2m_u64 (by omega) (by omega),rfl⟩
theorem ref_Mul (x y:Nat) (w:World) (hx:x≤18446744073709551615) (hy:y≤18446744073709551615):
  Calls Try.prog 73 #[.int .u64 (x:Int),.int .u64 (y:Int)] w fun e w'=>e=.returned (.int .u64 ((mulS x y:Nat):Int))∧w=w':=by
 have HM:=Lib.hid (ref_product x y w hx hy)
 have HE:Hid (mulS x y=min (x * y) 18446744073709551615):=Lib.hid rfl
 generalize x * y=p at *
 have HL:=Lib.hid (show p % 18446744073709551616 < 18446744073709551616 by omega)
 have HD:=Lib.hid (show p=18446744073709551616 * (p / 18446744073709551616) + p % 18446744073709551616 by omega)
 generalize p / 18446744073709551616=hi at *
 generalize p % 18446744073709551616=lo at *
 by_cases h:hi=0
 ·subst h
  go_enter Try.func73,Try.ntmps73
  go_wp2_with (go_at_call 83;refine (HM.out).mono ?_;rintro e w' ⟨rfl,rfl⟩)
  go_ret
  exact ⟨ret_u64 (by have a:=HE.out;have b:=HL.out;have c:=HD.out;omega),rfl⟩
 ·have h':0 < hi:=by omega
  go_enter Try.func73,Try.ntmps73
  go_wp2_with (go_at_call 83;refine (HM.out).mono ?_;rintro e w' ⟨rfl,rfl⟩)
  go_ret
  exact ⟨ret_u64 (by have a:=HE.out;have b:=HL.out;have c:=HD.out;omega),rfl⟩
end Go.Proofs.Ytaffjfajjpgjpaa
