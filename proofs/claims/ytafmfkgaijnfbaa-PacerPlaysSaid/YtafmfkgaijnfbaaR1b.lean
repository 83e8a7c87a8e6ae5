/- Contracts of the document's own answers of layer 1 (goitref01), over this translation: Sub. -/
import Derived.Test.YtafmfkgaijnfbaaR1m
set_option linter.unusedVariables false
namespace Go.Proofs.Ytafmfkgaijnfbaa
open Go.RowKit

theorem rs_Sub (a b : Nat) (w : World) (ha : a ≤ 18446744073709551615) : Calls Try.prog 26 #[.int .u64 (a : Int), .int .u64 (b : Int)] w fun e w' => e = .returned (.int .u64 ((Pl.subS a b : Nat) : Int)) ∧ w = w' := by
  unfold Pl.subS
  by_cases c : a < b
  · have d : decide (a < b) = true := decide_eq_true c
    have e : a - b = 0 := by omega
    rw [e]
    clear c ha
    go_enter Try.func26, Try.ntmps26
    go_wp2
    go_ret
    exact ⟨rfl, rfl⟩
  · have d : decide (a < b) = false := decide_eq_false c
    have e : IntKind.u64.wrap ((a : Int) - (b : Int)) = ((a - b : Nat) : Int) := by rw [IntKind.wrap_u64]; omega
    clear c ha
    go_enter Try.func26, Try.ntmps26
    go_wp2
    go_ret
    exact ⟨rfl, rfl⟩
end Go.Proofs.Ytafmfkgaijnfbaa
