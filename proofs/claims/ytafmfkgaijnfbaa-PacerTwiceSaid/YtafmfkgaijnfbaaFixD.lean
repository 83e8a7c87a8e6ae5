/- Contracts of fix.divide over this translation: a times b, by c, rounded down, and the rest, stopping at 2^64 - 1. -/
import Derived.Test.YtafmfkgaijnfbaaDiv
set_option linter.unusedVariables false
namespace Go.Proofs.Ytafmfkgaijnfbaa
open Go.RowKit Pl

def restS (a b c : Nat) : Nat := if c ≤ a * b / 18446744073709551616 then 0 else a * b % c

theorem share_top (a b c : Nat) (h : c ≤ a * b / 18446744073709551616) : shareS a b c = 18446744073709551615 := by
  unfold shareS
  split
  · rfl
  · have : 18446744073709551615 ≤ a * b / c := by
      rw [Nat.le_div_iff_mul_le (by omega)]
      generalize a * b = p at *
      omega
    omega

theorem share_in (a b c : Nat) (h : a * b / 18446744073709551616 < c) : shareS a b c = a * b / c := by
  unfold shareS
  have : a * b / c ≤ 18446744073709551615 := by
    have : a * b / c < 18446744073709551616 := by
      rw [Nat.div_lt_iff_lt_mul (by omega)]
      generalize a * b = p at *
      omega
    omega
  split <;> omega

set_option maxHeartbeats 400000 in
theorem fix_divide (x y z : Nat) (w : World) (hx : x ≤ 18446744073709551615) (hy : y ≤ 18446744073709551615) (hz : z ≤ 18446744073709551615) :
    Calls Try.prog 34 #[.int .u64 (x : Int), .int .u64 (y : Int), .int .u64 (z : Int)] w fun e w' => e = .returned (.tuple #[.int .u64 ((shareS x y z : Nat) : Int), .int .u64 ((restS x y z : Nat) : Int)]) ∧ Drawn w w' := by
  have HM := Lib.hid (Try.bits_Mul64 x y (by omega) (by omega) w)
  have hlo : x * y % 18446744073709551616 ≤ 18446744073709551615 := by omega
  have HP : Hid (x * y / 18446744073709551616 * 18446744073709551616 + x * y % 18446744073709551616 = x * y) := Lib.hid (by omega)
  by_cases h : z ≤ x * y / 18446744073709551616
  · have HS := Lib.hid (share_top x y z h)
    have HR : Hid (restS x y z = 0) := Lib.hid (by unfold restS; rw [if_pos h])
    generalize x * y / 18446744073709551616 = hi at *
    generalize x * y % 18446744073709551616 = lo at *
    go_enter Try.func34, Try.ntmps34
    go_wp2_with (go_at_call 33; refine (HM.out).mono ?_; rintro e w' ⟨rfl, hw⟩; rw [hw])
    go_ret2
    exact ⟨ret2_u64 (by rw [HS.out]; rfl) (by rw [HR.out]; rfl), Drawn.refl _⟩
  · have HS := Lib.hid (share_in x y z (by omega))
    have HR : Hid (restS x y z = x * y % z) := Lib.hid (by unfold restS; rw [if_neg h])
    have hhi : x * y / 18446744073709551616 ≤ 18446744073709551615 := by omega
    generalize x * y / 18446744073709551616 = hi at *
    generalize x * y % 18446744073709551616 = lo at *
    have hd := div64 hi lo z w (by omega) hlo hz
    rw [HP.out, ← HS.out, ← HR.out] at hd
    have HD := Lib.hid hd
    clear hd HS HR
    generalize shareS x y z = q at *
    generalize restS x y z = r at *
    go_enter Try.func34, Try.ntmps34
    go_wp2_with (first | (go_at_call 33; refine (HM.out).mono ?_; rintro e w' ⟨rfl, hw⟩; rw [hw]) | (go_at_call 35; refine (HD.out).mono ?_; rintro e w'' ⟨rfl, n, rfl⟩))
    go_ret2
    exact ⟨rfl, n, rfl⟩
end Go.Proofs.Ytafmfkgaijnfbaa
