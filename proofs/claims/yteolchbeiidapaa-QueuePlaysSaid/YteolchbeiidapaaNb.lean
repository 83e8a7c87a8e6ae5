/- Small facts: numbers at hand for fix.Sub, wherever they lie. -/
import Derived.Test.YteolchbeiidapaaSub
import Derived.Test.YteolchbeiidapaaNba
set_option linter.unusedVariables false
namespace Go.Proofs.Yteolchbeiidapaa
open Go.RowKit

theorem row1 {W : World} {b x : Nat} (h : W.cell? ⟨b, 0, none⟩ = some (.int .u64 (x : Int))) : Row W b 0 [x] := by
  intro i hi
  match i, hi with
  | 0, _ => exact h
/-- fix.Sub of one number, wherever it lies. -/
theorem sub_any (a x b : Nat) (ha : a ≤ 18446744073709551615) (hx : x ≤ 18446744073709551615) (W : World) (h : W.cell? ⟨b, 0, none⟩ = some (.int .u64 (x : Int))) :
    Calls Try.prog 19 #[.int .u64 (a : Int), .slice (some ⟨b, 0, none⟩) 1 1] W fun e w' => e = .returned (.int .u64 ((Pl.subS a x : Nat) : Int)) ∧ W = w' := by
  have := fix_Sub (a : Int) b 0 1 [x] W (by omega) (by omega) (by simp) (by simp; exact hx) (row1 h)
  simpa [Pl.lessS, Pl.subS] using this
end Go.Proofs.Yteolchbeiidapaa
