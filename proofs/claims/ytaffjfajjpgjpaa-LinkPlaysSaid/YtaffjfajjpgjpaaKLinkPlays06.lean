/- 1 texts put together: what each one says stands ahead of it. -/
import Derived.Test.YtaffjfajjpgjpaaKLinkPlays05
import Derived.Test.YtaffjfajjpgjpaaKLinkPlays01
import Derived.Test.YtaffjfajjpgjpaaKLinkPlays02
import Derived.WalkLawsBesides
import Derived.Lib.Hide
set_option linter.unusedVariables false
namespace Go.Proofs.Ytaffjfajjpgjpaa
open Go.RowKit Pl
theorem fix_Mul (a b:Int) (w:World) (ha0:0≤a) (ha:a≤18446744073709551615) (hb0:0≤b) (hb:b≤18446744073709551615):
  Calls Try.prog 45 #[.int .u64 a,.int .u64 b] w fun e w'=>e=.returned (.int .u64 ((mulS a.toNat b.toNat:Nat):Int))∧w=w':=by
 obtain ⟨x,rfl⟩:=Int.eq_ofNat_of_zero_le ha0
 obtain ⟨y,rfl⟩:=Int.eq_ofNat_of_zero_le hb0
 simp only [Int.toNat_natCast]
 have HM:=Lib.hid (Try.bits_Mul64 x y (by omega) (by omega) w)
 have HE:Hid (mulS x y=min (x * y) 18446744073709551615):=Lib.hid rfl
 generalize x * y=p at *
 have HL:=Lib.hid (show p % 18446744073709551616 < 18446744073709551616 by omega)
 have HD:=Lib.hid (show p=18446744073709551616 * (p / 18446744073709551616) + p % 18446744073709551616 by omega)
 generalize p / 18446744073709551616=hi at *
 generalize p % 18446744073709551616=lo at *
 clear ha0 ha hb0 hb
 by_cases h:hi=0
 ·subst h
  go_enter Try.func45,Try.ntmps45
  go_wp2_with (go_at_call 67;refine (HM.out).mono ?_;rintro e w' ⟨rfl,hw⟩;rw [hw])
  go_ret
  exact ⟨ret_u64 (by have a:=HE.out;have b:=HL.out;have c:=HD.out;omega),rfl⟩
 ·have h':0 < hi:=by omega
  go_enter Try.func45,Try.ntmps45
  go_wp2_with (go_at_call 67;refine (HM.out).mono ?_;rintro e w' ⟨rfl,hw⟩;rw [hw])
  go_ret
  exact ⟨ret_u64 (by have a:=HE.out;have b:=HL.out;have c:=HD.out;omega),rfl⟩
theorem fix_Mul_n (x y:Nat) (w:World) (hx:x≤18446744073709551615) (hy:y≤18446744073709551615):
  Calls Try.prog 45 #[.int .u64 (x:Int),.int .u64 (y:Int)] w fun e w'=>e=.returned (.int .u64 ((mulS x y:Nat):Int))∧w=w':=by
 have h:=fix_Mul (x:Int) (y:Int) w (by omega) (by omega) (by omega) (by omega)
 simpa only [Int.toNat_natCast] using h
end Go.Proofs.Ytaffjfajjpgjpaa
