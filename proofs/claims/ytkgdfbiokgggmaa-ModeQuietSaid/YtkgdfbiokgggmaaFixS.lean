/- Contracts of fix.Share over this translation. -/
import Derived.Test.YtkgdfbiokgggmaaFixD
set_option linter.unusedVariables false
namespace Go.Proofs.Ytkgdfbiokgggmaa
open Go.RowKit Pl

theorem fix_Share (a b c : Int) (w : World) (ha0 : 0 ≤ a) (ha : a ≤ 18446744073709551615) (hb0 : 0 ≤ b) (hb : b ≤ 18446744073709551615) (hc0 : 0 ≤ c) (hc : c ≤ 18446744073709551615) :
    Calls Try.prog 20 #[.int .u64 a, .int .u64 b, .int .u64 c] w fun e w' => e = .returned (.int .u64 ((shareS a.toNat b.toNat c.toNat : Nat) : Int)) ∧ Drawn w w' := by
  obtain ⟨x, rfl⟩ := Int.eq_ofNat_of_zero_le ha0
  obtain ⟨y, rfl⟩ := Int.eq_ofNat_of_zero_le hb0
  obtain ⟨z, rfl⟩ := Int.eq_ofNat_of_zero_le hc0
  simp only [Int.toNat_natCast]
  have HD := Lib.hid (fix_divide x y z w (by omega) (by omega) (by omega))
  clear ha0 ha hb0 hb hc0 hc
  go_enter Try.func20, Try.ntmps20
  go_wp2_with (go_at_call 23; refine (HD.out).mono ?_; rintro e w'' ⟨rfl, n, rfl⟩)
  go_ret
  exact ⟨rfl, n, rfl⟩

theorem fix_Share_n (x y z : Nat) (w : World) (hx : x ≤ 18446744073709551615) (hy : y ≤ 18446744073709551615) (hz : z ≤ 18446744073709551615) :
    Calls Try.prog 20 #[.int .u64 (x : Int), .int .u64 (y : Int), .int .u64 (z : Int)] w fun e w' => e = .returned (.int .u64 ((shareS x y z : Nat) : Int)) ∧ Drawn w w' := by
  have h := fix_Share (x : Int) (y : Int) (z : Int) w (by omega) (by omega) (by omega) (by omega) (by omega) (by omega)
  simpa only [Int.toNat_natCast] using h

/-! ### the same, of what was there ahead of the numbers' own block -/

theorem share_b (x y z : Nat) (w : World) (hx : x ≤ 18446744073709551615) (hy : y ≤ 18446744073709551615) (hz : z ≤ 18446744073709551615) :
    Calls Try.prog 20 #[.int .u64 (x : Int), .int .u64 (y : Int), .int .u64 (z : Int)] w fun e w' => e = .returned (.int .u64 ((shareS x y z : Nat) : Int)) ∧ Below w.heap.size w w' :=
  (fix_Share_n x y z w hx hy hz).mono fun _ _ h => ⟨h.1, h.2.below _⟩
end Go.Proofs.Ytkgdfbiokgggmaa
