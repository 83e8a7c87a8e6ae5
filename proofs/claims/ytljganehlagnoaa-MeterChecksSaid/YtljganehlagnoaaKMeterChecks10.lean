/- 1 texts put together: what each one says stands ahead of it. -/
import Derived.Test.YtljganehlagnoaaKMeterChecks09
import Derived.Test.YtljganehlagnoaaKMeterChecks01
import Derived.Test.YtljganehlagnoaaProg
import Derived.WalkLawsBesides
import Derived.Lib.Hide
set_option linter.unusedVariables false
namespace Go.Proofs.Ytljganehlagnoaa
open Go.RowKit Pl
theorem ref_Add (a b:Nat) (w:World) (ha:a≤18446744073709551615) (hb:b≤18446744073709551615):
  Calls Try.prog 27 #[.int .u64 (a:Int),.int .u64 (b:Int)] w fun e w'=>e=.returned (.int .u64 ((addS a b:Nat):Int))∧w=w':=by
 by_cases h:18446744073709551615 < a + b
 ·have t:decide ((18446744073709551615:Int) - (b:Int) < (a:Int))=true:=decide_eq_true (by omega)
  have HE:Hid (addS a b=18446744073709551615):=Lib.hid (by unfold addS;omega)
  clear h
  go_enter Try.func27,Try.ntmps27
  go_wp2
  go_ret
  exact ⟨ret_u64 (by rw [HE.out];rfl),rfl⟩
 ·have t:decide ((18446744073709551615:Int) - (b:Int) < (a:Int))=false:=decide_eq_false (by omega)
  have HE:Hid (addS a b=a + b):=Lib.hid (by unfold addS;omega)
  have h':a + b≤18446744073709551615:=by omega
  clear h
  go_enter Try.func27,Try.ntmps27
  go_wp2
  go_ret
  exact ⟨ret_u64 (by rw [HE.out];simp),rfl⟩
end Go.Proofs.Ytljganehlagnoaa
