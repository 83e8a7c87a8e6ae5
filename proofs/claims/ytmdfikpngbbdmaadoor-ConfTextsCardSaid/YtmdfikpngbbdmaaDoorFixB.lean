/- Contracts of fix.divide and fix.Over over this translation: a times b, by c, rounded down, and up, stopping at 2^64 - 1. -/
import Derived.Test.YtmdfikpngbbdmaaDoorDiv
set_option linter.unusedVariables false
namespace Go.Proofs.YtmdfikpngbbdmaaDoor
open Go.RowKit Pl

def restS (a b c : Nat) : Nat := if c ≤ a * b / 18446744073709551616 then 0 else a * b % c

theorem share_top (a b c : Nat) (h : c ≤ a * b / 18446744073709551616) : shareS a b c = 18446744073709551615 := by
  unfold shareS
  split
  · rfl
  · have : 18446744073709551615 ≤ a * b / c := by
      rw [Nat.le_div_iff_mul_le (by omega)]
      generalize a * b = p at *
      omega
    omega

theorem share_in (a b c : Nat) (h : a * b / 18446744073709551616 < c) : shareS a b c = a * b / c := by
  unfold shareS
  have : a * b / c ≤ 18446744073709551615 := by
    have : a * b / c < 18446744073709551616 := by
      rw [Nat.div_lt_iff_lt_mul (by omega)]
      generalize a * b = p at *
      omega
    omega
  split <;> omega

theorem over_eq (a b c : Nat) : overS a b c = if restS a b c = 0 then shareS a b c else addS (shareS a b c) 1 := by
  by_cases h : c ≤ a * b / 18446744073709551616
  · rw [share_top a b c h, show restS a b c = 0 by unfold restS; rw [if_pos h], if_pos rfl]
    unfold overS
    split
    · rfl
    · have : 18446744073709551615 ≤ (a * b + (c - 1)) / c := by
        rw [Nat.le_div_iff_mul_le (by omega)]
        generalize a * b = p at *
        omega
      omega
  · rw [share_in a b c (by omega), show restS a b c = a * b % c by unfold restS; rw [if_neg h]]
    have hc : 0 < c := by omega
    unfold overS addS
    rw [if_neg (by omega)]
    have e := Nat.div_add_mod (a * b) c
    have l := Nat.mod_lt (a * b) hc
    have hb : a * b / c < 18446744073709551616 := by
      rw [Nat.div_lt_iff_lt_mul hc]
      generalize a * b = p at *
      omega
    generalize a * b = p at *
    generalize p / c = q at *
    generalize p % c = r at *
    split
    · next h0 =>
      subst h0
      have : (p + (c - 1)) / c = q := by
        rw [← e, Nat.add_zero, Nat.mul_add_div hc, Nat.div_eq_of_lt (by omega), Nat.add_zero]
      omega
    · next h0 =>
      have : (p + (c - 1)) / c = q + 1 := by
        rw [← e, Nat.add_assoc, Nat.mul_add_div hc, show r + (c - 1) = c * 1 + (r - 1) by omega, Nat.mul_add_div hc, Nat.div_eq_of_lt (by omega), Nat.add_zero]
      omega

set_option maxHeartbeats 400000 in
theorem fix_divide (x y z : Nat) (w : World) (hx : x ≤ 18446744073709551615) (hy : y ≤ 18446744073709551615) (hz : z ≤ 18446744073709551615) :
    Calls Tryd.prog 33 #[.int .u64 (x : Int), .int .u64 (y : Int), .int .u64 (z : Int)] w fun e w' => e = .returned (.tuple #[.int .u64 ((shareS x y z : Nat) : Int), .int .u64 ((restS x y z : Nat) : Int)]) ∧ Drawn w w' := by
  have HM := Lib.hid (Tryd.bits_Mul64 x y (by omega) (by omega) w)
  have hlo : x * y % 18446744073709551616 ≤ 18446744073709551615 := by omega
  have HP : Hid (x * y / 18446744073709551616 * 18446744073709551616 + x * y % 18446744073709551616 = x * y) := Lib.hid (by omega)
  by_cases h : z ≤ x * y / 18446744073709551616
  · have HS := Lib.hid (share_top x y z h)
    have HR : Hid (restS x y z = 0) := Lib.hid (by unfold restS; rw [if_pos h])
    generalize x * y / 18446744073709551616 = hi at *
    generalize x * y % 18446744073709551616 = lo at *
    go_enter Tryd.func33, Tryd.ntmps33
    go_wp2_with (go_at_call 41; refine (HM.out).mono ?_; rintro e w' ⟨rfl, hw⟩; rw [hw])
    go_ret2
    exact ⟨ret2_u64 (by rw [HS.out]; rfl) (by rw [HR.out]; rfl), Drawn.refl _⟩
  · have HS := Lib.hid (share_in x y z (by omega))
    have HR : Hid (restS x y z = x * y % z) := Lib.hid (by unfold restS; rw [if_neg h])
    have hhi : x * y / 18446744073709551616 ≤ 18446744073709551615 := by omega
    generalize x * y / 18446744073709551616 = hi at *
    generalize x * y % 18446744073709551616 = lo at *
    have hd := div64 hi lo z w (by omega) hlo hz
    rw [HP.out, ← HS.out, ← HR.out] at hd
    have HD := Lib.hid hd
    clear hd HS HR
    generalize shareS x y z = q at *
    generalize restS x y z = r at *
    go_enter Tryd.func33, Tryd.ntmps33
    go_wp2_with (first | (go_at_call 41; refine (HM.out).mono ?_; rintro e w' ⟨rfl, hw⟩; rw [hw]) | (go_at_call 42; refine (HD.out).mono ?_; rintro e w'' ⟨rfl, n, rfl⟩))
    go_ret2
    exact ⟨rfl, n, rfl⟩

theorem Drawn.below {w w' : World} (h : Drawn w w') : Below w.heap.size w w' := by
  obtain ⟨n, rfl⟩ := h
  exact below_drewN (Below.refl _ _) n

set_option maxHeartbeats 400000 in
theorem fix_Over_pl (x y z : Nat) (w : World) (hx : x ≤ 18446744073709551615) (hy : y ≤ 18446744073709551615) (hz : z ≤ 18446744073709551615) :
    Calls Tryd.prog 23 #[.int .u64 (x : Int), .int .u64 (y : Int), .int .u64 (z : Int)] w fun e w' => e = .returned (.int .u64 ((overS x y z : Nat) : Int)) ∧ Below w.heap.size w w' := by
  have HD := Lib.hid (fix_divide x y z w (by omega) (by omega) (by omega))
  have HO := Lib.hid (over_eq x y z)
  have bs := shareS_le x y z
  generalize shareS x y z = q at *
  generalize restS x y z = r at *
  by_cases h : r = 0
  · subst h
    go_enter Tryd.func23, Tryd.ntmps23
    go_wp2_with (go_at_call 33; refine (HD.out).mono ?_; rintro e w'' ⟨rfl, n, rfl⟩)
    go_ret
    exact ⟨ret_u64 (by rw [HO.out]; simp), Drawn.below ⟨n, rfl⟩⟩
  · have h' : ((r : Int) == 0) = false := beq_eq_false_iff_ne.2 (by omega)
    have HN := Lib.hid h
    clear h
    go_enter Tryd.func23, Tryd.ntmps23
    go_wp2_with (first | (go_at_call 33; refine (HD.out).mono ?_; rintro e w'' ⟨rfl, n, rfl⟩) | (go_at_call 34; refine (fix_Add2 _ _ _ (q : Int) 1 rfl (by omega) (by omega) (by omega) (by omega)).mono ?_; rintro e w'' ⟨rfl, rfl⟩))
    go_ret
    exact ⟨ret_u64 (by rw [HO.out, if_neg HN.out]), (Drawn.below ⟨n, rfl⟩).alloc (Nat.le_refl _) _⟩

theorem fix_Over (a b c : Int) (w : World) (ha0 : 0 ≤ a) (ha : a ≤ 18446744073709551615) (hb0 : 0 ≤ b) (hb : b ≤ 18446744073709551615) (hc0 : 0 ≤ c) (hc : c ≤ 18446744073709551615) :
    Calls Tryd.prog 23 #[.int .u64 a, .int .u64 b, .int .u64 c] w fun e w' => e = .returned (.int .u64 ((overS a.toNat b.toNat c.toNat : Nat) : Int)) ∧ Below w.heap.size w w' := by
  obtain ⟨x, rfl⟩ := Int.eq_ofNat_of_zero_le ha0
  obtain ⟨y, rfl⟩ := Int.eq_ofNat_of_zero_le hb0
  obtain ⟨z, rfl⟩ := Int.eq_ofNat_of_zero_le hc0
  simp only [Int.toNat_natCast]
  exact fix_Over_pl x y z w (by omega) (by omega) (by omega)

end Go.Proofs.YtmdfikpngbbdmaaDoor
