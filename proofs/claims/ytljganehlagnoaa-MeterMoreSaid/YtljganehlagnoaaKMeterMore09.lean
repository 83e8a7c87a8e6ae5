/- 1 texts put together: what each one says stands ahead of it. -/
import Derived.Lib.Mul64
import Derived.Lib.BitFns
import Derived.Lib.ItoaNum
set_option linter.unusedVariables false
namespace Go.Proofs.Ytljganehlagnoaa.Pl
end Go.Proofs.Ytljganehlagnoaa.Pl
