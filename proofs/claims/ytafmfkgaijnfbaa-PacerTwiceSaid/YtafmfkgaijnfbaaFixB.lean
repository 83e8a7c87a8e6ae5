/- Contracts of fix.Over over this translation: a times b, by c, rounded up, stopping at 2^64 - 1. -/
import Derived.Test.YtafmfkgaijnfbaaFixD
import Derived.Test.YtafmfkgaijnfbaaAdd
set_option linter.unusedVariables false
namespace Go.Proofs.Ytafmfkgaijnfbaa
open Go.RowKit Pl

theorem over_eq (a b c : Nat) : overS a b c = if restS a b c = 0 then shareS a b c else addS (shareS a b c) 1 := by
  by_cases h : c ≤ a * b / 18446744073709551616
  · rw [share_top a b c h, show restS a b c = 0 by unfold restS; rw [if_pos h], if_pos rfl]
    unfold overS
    split
    · rfl
    · have : 18446744073709551615 ≤ (a * b + (c - 1)) / c := by
        rw [Nat.le_div_iff_mul_le (by omega)]
        generalize a * b = p at *
        omega
      omega
  · rw [share_in a b c (by omega), show restS a b c = a * b % c by unfold restS; rw [if_neg h]]
    have hc : 0 < c := by omega
    unfold overS addS
    rw [if_neg (by omega)]
    have e := Nat.div_add_mod (a * b) c
    have l := Nat.mod_lt (a * b) hc
    have hb : a * b / c < 18446744073709551616 := by
      rw [Nat.div_lt_iff_lt_mul hc]
      generalize a * b = p at *
      omega
    generalize a * b = p at *
    generalize p / c = q at *
    generalize p % c = r at *
    split
    · next h0 =>
      subst h0
      have : (p + (c - 1)) / c = q := by
        rw [← e, Nat.add_zero, Nat.mul_add_div hc, Nat.div_eq_of_lt (by omega), Nat.add_zero]
      omega
    · next h0 =>
      have : (p + (c - 1)) / c = q + 1 := by
        rw [← e, Nat.add_assoc, Nat.mul_add_div hc, show r + (c - 1) = c * 1 + (r - 1) by omega, Nat.mul_add_div hc, Nat.div_eq_of_lt (by omega), Nat.add_zero]
      omega

set_option maxHeartbeats 400000 in
theorem fix_Over_pl (x y z : Nat) (w : World) (hx : x ≤ 18446744073709551615) (hy : y ≤ 18446744073709551615) (hz : z ≤ 18446744073709551615) :
    Calls Try.prog 30 #[.int .u64 (x : Int), .int .u64 (y : Int), .int .u64 (z : Int)] w fun e w' => e = .returned (.int .u64 ((overS x y z : Nat) : Int)) ∧ Below w.heap.size w w' := by
  have HD := Lib.hid (fix_divide x y z w (by omega) (by omega) (by omega))
  have HO := Lib.hid (over_eq x y z)
  have bs := shareS_le x y z
  generalize shareS x y z = q at *
  generalize restS x y z = r at *
  by_cases h : r = 0
  · subst h
    go_enter Try.func30, Try.ntmps30
    go_wp2_with (go_at_call 34; refine (HD.out).mono ?_; rintro e w'' ⟨rfl, n, rfl⟩)
    go_ret
    exact ⟨ret_u64 (by rw [HO.out]; simp), Drawn.below ⟨n, rfl⟩ _⟩
  · have h' : ((r : Int) == 0) = false := beq_eq_false_iff_ne.2 (by omega)
    have HN := Lib.hid h
    clear h
    go_enter Try.func30, Try.ntmps30
    go_wp2_with (first | (go_at_call 34; refine (HD.out).mono ?_; rintro e w'' ⟨rfl, n, rfl⟩) | (go_at_call 18; refine (fix_Add2 _ _ _ (q : Int) 1 rfl (by omega) (by omega) (by omega) (by omega)).mono ?_; rintro e w'' ⟨rfl, rfl⟩))
    go_ret
    exact ⟨ret_u64 (by rw [HO.out, if_neg HN.out]), (Drawn.below ⟨n, rfl⟩ _).alloc (Nat.le_refl _) _⟩

theorem fix_Over (a b c : Int) (w : World) (ha0 : 0 ≤ a) (ha : a ≤ 18446744073709551615) (hb0 : 0 ≤ b) (hb : b ≤ 18446744073709551615) (hc0 : 0 ≤ c) (hc : c ≤ 18446744073709551615) :
    Calls Try.prog 30 #[.int .u64 a, .int .u64 b, .int .u64 c] w fun e w' => e = .returned (.int .u64 ((overS a.toNat b.toNat c.toNat : Nat) : Int)) ∧ Below w.heap.size w w' := by
  obtain ⟨x, rfl⟩ := Int.eq_ofNat_of_zero_le ha0
  obtain ⟨y, rfl⟩ := Int.eq_ofNat_of_zero_le hb0
  obtain ⟨z, rfl⟩ := Int.eq_ofNat_of_zero_le hc0
  simp only [Int.toNat_natCast]
  exact fix_Over_pl x y z w (by omega) (by omega) (by omega)

end Go.Proofs.Ytafmfkgaijnfbaa
