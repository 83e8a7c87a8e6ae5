/- BoundTells over this translation, whatever came in. -/
import Derived.Test.YtgjpenlfhlkleaaLaw13b
import Derived.Test.YtgjpenlfhlkleaaIn13
set_option linter.unusedVariables false
namespace Go.Proofs.Ytgjpenlfhlkleaa
open Go.RowKit Pl

theorem BoundTells_walk (b : BS) (x0 x1 x2 : Nat) (v : Option Addr) (len cap : Nat) (l : List Nat) (W : World) (hb : b.ok) (hx : x0 ≤ 18446744073709551615 ∧ x1 ≤ 18446744073709551615 ∧ x2 ≤ 18446744073709551615) (hl : InNr W v len l) :
    Calls Try.prog 3 #[.agg b.cells, .agg #[.int .u64 (x0 : Int), .int .u64 (x1 : Int), .int .u64 (x2 : Int)], .slice v len cap] W fun e w' => e = .returned (.bool true) ∧ Below W.heap.size W w' := by
  obtain ⟨rfl, _, hv⟩ := hl
  by_cases c : 100 < l.length
  · exact BoundTells_long b x0 x1 x2 v cap l W c
  · exact BoundTells_short b x0 x1 x2 v cap l W (by omega) hb hx.1 hx.2.1 hx.2.2 hv
end Go.Proofs.Ytgjpenlfhlkleaa
