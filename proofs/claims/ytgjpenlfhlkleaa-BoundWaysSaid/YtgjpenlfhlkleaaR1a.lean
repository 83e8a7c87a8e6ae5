/- Contracts of the document's own answers of layer 1 (goitref01), over this translation: Add, Share. -/
import Derived.Test.YtgjpenlfhlkleaaRef01
set_option linter.unusedVariables false
namespace Go.Proofs.Ytgjpenlfhlkleaa
open Go.RowKit Pl

theorem ref_Add (a b : Nat) (w : World) (ha : a ≤ 18446744073709551615) (hb : b ≤ 18446744073709551615) :
    Calls Try.prog 23 #[.int .u64 (a : Int), .int .u64 (b : Int)] w fun e w' => e = .returned (.int .u64 ((addS a b : Nat) : Int)) ∧ w = w' := by
  by_cases h : 18446744073709551615 < a + b
  · have t : decide ((18446744073709551615 : Int) - (b : Int) < (a : Int)) = true := decide_eq_true (by omega)
    have HE : Hid (addS a b = 18446744073709551615) := Lib.hid (by unfold addS; omega)
    clear h
    go_enter Try.func23, Try.ntmps23
    go_wp2
    go_ret
    exact ⟨ret_u64 (by rw [HE.out]; rfl), rfl⟩
  · have t : decide ((18446744073709551615 : Int) - (b : Int) < (a : Int)) = false := decide_eq_false (by omega)
    have HE : Hid (addS a b = a + b) := Lib.hid (by unfold addS; omega)
    have h' : a + b ≤ 18446744073709551615 := by omega
    clear h
    go_enter Try.func23, Try.ntmps23
    go_wp2
    go_ret
    exact ⟨ret_u64 (by rw [HE.out]; simp), rfl⟩

theorem ref_Share (x y z : Nat) (w : World) (hx : x ≤ 18446744073709551615) (hy : y ≤ 18446744073709551615) (hz : z ≤ 18446744073709551615) :
    Calls Try.prog 21 #[.int .u64 (x : Int), .int .u64 (y : Int), .int .u64 (z : Int)] w fun e w' => e = .returned (.int .u64 ((shareS x y z : Nat) : Int)) ∧ w = w' := by
  have HM := Lib.hid (ref_product x y w hx hy)
  have hlo : x * y % 18446744073709551616 ≤ 18446744073709551615 := by omega
  have HP : Hid (x * y / 18446744073709551616 * 18446744073709551616 + x * y % 18446744073709551616 = x * y) := Lib.hid (by omega)
  by_cases h : z ≤ x * y / 18446744073709551616
  · have HS := Lib.hid (share_top x y z h)
    generalize x * y / 18446744073709551616 = hi at *
    generalize x * y % 18446744073709551616 = lo at *
    go_enter Try.func21, Try.ntmps21
    go_wp2_with (go_at_call 25; refine (HM.out).mono ?_; rintro e w' ⟨rfl, rfl⟩)
    go_ret
    exact ⟨ret_u64 (by rw [HS.out]; rfl), rfl⟩
  · have HS := Lib.hid (share_in x y z (by omega))
    generalize x * y / 18446744073709551616 = hi at *
    generalize x * y % 18446744073709551616 = lo at *
    have hd := ref_divide hi lo z w (by omega) hlo hz
    rw [HP.out, ← HS.out] at hd
    have HD := Lib.hid hd
    clear hd HS
    generalize shareS x y z = q at *
    generalize x * y % z = r at *
    go_enter Try.func21, Try.ntmps21
    go_wp2_with (first | (go_at_call 25; refine (HM.out).mono ?_; rintro e w' ⟨rfl, rfl⟩) | (go_at_call 26; refine (HD.out).mono ?_; rintro e w' ⟨rfl, rfl⟩))
    go_ret
    exact ⟨rfl, rfl⟩
end Go.Proofs.Ytgjpenlfhlkleaa
