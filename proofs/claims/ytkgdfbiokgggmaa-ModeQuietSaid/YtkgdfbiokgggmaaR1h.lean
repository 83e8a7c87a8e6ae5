/- Contracts of the document's own answers of layer 1 (goitref01), over this translation: Share. -/
import Derived.Test.YtkgdfbiokgggmaaRef01
set_option linter.unusedVariables false
namespace Go.Proofs.Ytkgdfbiokgggmaa
open Go.RowKit Pl

theorem ref_Share (x y z : Nat) (w : World) (hx : x ≤ 18446744073709551615) (hy : y ≤ 18446744073709551615) (hz : z ≤ 18446744073709551615) :
    Calls Try.prog 18 #[.int .u64 (x : Int), .int .u64 (y : Int), .int .u64 (z : Int)] w fun e w' => e = .returned (.int .u64 ((shareS x y z : Nat) : Int)) ∧ w = w' := by
  have HM := Lib.hid (ref_product x y w hx hy)
  have hlo : x * y % 18446744073709551616 ≤ 18446744073709551615 := by omega
  have HP : Hid (x * y / 18446744073709551616 * 18446744073709551616 + x * y % 18446744073709551616 = x * y) := Lib.hid (by omega)
  by_cases h : z ≤ x * y / 18446744073709551616
  · have HS := Lib.hid (share_top x y z h)
    generalize x * y / 18446744073709551616 = hi at *
    generalize x * y % 18446744073709551616 = lo at *
    go_enter Try.func18, Try.ntmps18
    go_wp2_with (go_at_call 21; refine (HM.out).mono ?_; rintro e w' ⟨rfl, rfl⟩)
    go_ret
    exact ⟨ret_u64 (by rw [HS.out]; rfl), rfl⟩
  · have HS := Lib.hid (share_in x y z (by omega))
    generalize x * y / 18446744073709551616 = hi at *
    generalize x * y % 18446744073709551616 = lo at *
    have hd := ref_divide hi lo z w (by omega) hlo hz
    rw [HP.out, ← HS.out] at hd
    have HD := Lib.hid hd
    clear hd HS
    generalize shareS x y z = q at *
    generalize x * y % z = r at *
    go_enter Try.func18, Try.ntmps18
    go_wp2_with (first | (go_at_call 21; refine (HM.out).mono ?_; rintro e w' ⟨rfl, rfl⟩) | (go_at_call 22; refine (HD.out).mono ?_; rintro e w' ⟨rfl, rfl⟩))
    go_ret
    exact ⟨rfl, rfl⟩
end Go.Proofs.Ytkgdfbiokgggmaa
