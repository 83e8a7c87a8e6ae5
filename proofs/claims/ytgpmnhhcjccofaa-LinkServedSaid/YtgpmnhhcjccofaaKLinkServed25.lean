/- 2 texts put together: what each one says stands ahead of it. -/
import Derived.Test.YtgpmnhhcjccofaaKLinkServed02
import Derived.Deep.CutBlock
import Derived.Deep.DeepCutAuto
import Derived.Test.YtgpmnhhcjccofaaKLinkServed04
import Derived.Test.YtgpmnhhcjccofaaKLinkServed03
set_option linter.unusedVariables false
namespace Go.Proofs.Ytgpmnhhcjccofaa
open Go.RowKit Pl
structure Bits (hi lo c i q r l:Nat):Prop where
 eq:(hi * 18446744073709551616 + lo) * 2 ^ i=(q * c + r) * 18446744073709551616 + l
 r_lt:r < c
 l_lt:l < 18446744073709551616
 q_lt:q < 2 ^ i
end Go.Proofs.Ytgpmnhhcjccofaa

set_option linter.unusedVariables false
namespace Go.Proofs.Ytgpmnhhcjccofaa
open Go.RowKit Pl
end Go.Proofs.Ytgpmnhhcjccofaa
