/- 2 texts put together: what each one says stands ahead of it. -/
import Derived.Test.YtgpmnhhcjccofaaProg
import Derived.Test.YtgpmnhhcjccofaaKLinkEnvelope01
import Derived.Test.YtgpmnhhcjccofaaKLinkEnvelope02
import Derived.WalkKit
import Derived.WalkLawsBesides
import Derived.Lib.Hide
import Derived.Outline
set_option linter.unusedVariables false
namespace Go.Proofs.Ytgpmnhhcjccofaa
open Go.RowKit Pl
def Row (w:World) (b off:Nat) (zs:List Nat):Prop:=∀i,i < zs.length→w.cell? ⟨b,off + i,none⟩=some (.int .u64 ((zs.getD i 0:Nat):Int))
theorem take_succ_sum (zs:List Nat) (k:Nat) (h:k < zs.length):(zs.take (k + 1)).sum=(zs.take k).sum + zs.getD k 0:=by
 rw [List.take_succ_eq_append_getElem h,List.sum_append]
 simp [List.getD_eq_getElem?_getD,h]
theorem take_sum_le (zs:List Nat) (k:Nat):(zs.take k).sum≤zs.sum:=by
 conv=>rhs;rw [← List.take_append_drop k zs,List.sum_append]
 omega
theorem Row.bd {zs:List Nat} (h:∀z∈zs,z≤18446744073709551615) (k:Nat):zs.getD k 0≤18446744073709551615:=by
 rw [List.getD_eq_getElem?_getD]
 cases e:zs[k]? with
 | none=>simp
 | some z=>exact h z (List.mem_of_getElem? e)
end Go.Proofs.Ytgpmnhhcjccofaa

set_option linter.unusedVariables false
namespace Go.Proofs.Ytgpmnhhcjccofaa
open Go.RowKit Pl
end Go.Proofs.Ytgpmnhhcjccofaa
