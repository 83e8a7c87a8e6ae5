/- 1 texts put together: what each one says stands ahead of it. -/
import Derived.Test.YtljganehlagnoaaKMeterMore09
import Derived.Test.YtljganehlagnoaaKMeterMore01
import Derived.Test.YtljganehlagnoaaProg
import Derived.WalkLawsBesides
import Derived.Lib.Hide
set_option linter.unusedVariables false
namespace Go.Proofs.Ytljganehlagnoaa
open Go.RowKit Pl
end Go.Proofs.Ytljganehlagnoaa
