/- Contracts of package bucket over this translation: the calls of no bucket. -/
import Derived.Test.YtbgmkebjehapgaaBk
set_option linter.unusedVariables false
namespace Go.Proofs.Ytbgmkebjehapgaa
open Go.RowKit

theorem bk_To_nil (x : Int) (W : World) : Calls Try.prog 8 #[.pointer none, .int .u64 x] W fun e w' => e = .returned (.tuple #[]) ∧ W = w' := by
  go_enter Try.func8, Try.ntmps8
  go_wp2
  exact bodyPost_ret (v := .tuple #[]) (by simp [results, Try.results8, go_sem]) rfl ⟨rfl, rfl⟩
theorem bk_Take_nil (x : Int) (W : World) : Calls Try.prog 10 #[.pointer none, .int .u64 x] W fun e w' => e = .returned (.bool false) ∧ Below W.heap.size W w' := by
  go_enter Try.func10, Try.ntmps10
  go_wp2_with fail
  go_region
  go_wp2
  go_ret
  exact ⟨rfl, (Drawn.drew _).below _⟩
theorem bk_Waste_nil (x : Int) (W : World) : Calls Try.prog 12 #[.pointer none, .int .u64 x] W fun e w' => e = .returned (.int .u64 0) ∧ W = w' := by
  go_enter Try.func12, Try.ntmps12
  go_wp2
  go_ret
  exact ⟨rfl, rfl⟩
theorem bk_Tokens_nil (W : World) : Calls Try.prog 14 #[.pointer none] W fun e w' => e = .returned (.int .u64 0) ∧ W = w' := by
  go_enter Try.func14, Try.ntmps14
  go_wp2
  go_ret
  exact ⟨rfl, rfl⟩
theorem bk_Wasted_nil (W : World) : Calls Try.prog 15 #[.pointer none] W fun e w' => e = .returned (.int .u64 0) ∧ W = w' := by
  go_enter Try.func15, Try.ntmps15
  go_wp2
  go_ret
  exact ⟨rfl, rfl⟩
end Go.Proofs.Ytbgmkebjehapgaa
