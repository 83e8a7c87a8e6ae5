/- FixNear: the walk. -/
import Derived.Test.YtjaiffmdoodfaaaLaw01a
set_option linter.unusedVariables false
namespace Go.Proofs.Ytjaiffmdoodfaaa
open Go.RowKit Pl

theorem over_near (a b c : Nat) : overS a b c = shareS a b c ∨ overS a b c = shareS a b c + 1 := by
  rw [over_eq]
  have := shareS_le a b c
  split
  · exact Or.inl rfl
  · unfold addS; omega

/-- Where nothing is too great: the share is the quotient, and the other one the quotient rounded up. -/
theorem near_in (a b c : Nat) (hx : shareS a b c ≠ 18446744073709551615) (hp : mulS a b ≠ 18446744073709551615) (hc : c ≠ 0) :
    mulS (shareS a b c) c ≤ mulS a b ∧ mulS a b ≤ mulS (overS a b c) c ∧ (shareS a b c = overS a b c ↔ mulS (shareS a b c) c = mulS a b) := by
  have hc0 : 0 < c := by omega
  have e := Nat.div_add_mod (a * b) c
  have l := Nat.mod_lt (a * b) hc0
  have ep : mulS a b = a * b := by unfold mulS at hp ⊢; omega
  have es : shareS a b c = a * b / c := by unfold shareS at hx ⊢; split at hx <;> rename_i h <;> simp only [h, if_true, if_false] <;> omega
  have eo := over_eq a b c
  have er : restS a b c = a * b % c := by
    unfold restS
    have : a * b / 18446744073709551616 = 0 := by rw [← ep]; have := mulS_le a b; omega
    rw [if_neg (by omega)]
  have pl := mulS_le a b
  rw [es] at hx eo ⊢
  rw [ep] at pl hp ⊢
  rw [er] at eo
  have hx' : a * b / c < 18446744073709551615 := by have := shareS_le a b c; omega
  have eqc : a * b / c * c = c * (a * b / c) := Nat.mul_comm _ _
  have eqs : (a * b / c + 1) * c = c * (a * b / c) + c := by rw [Nat.add_mul, eqc]; omega
  generalize a * b = p at *
  generalize p / c = q at *
  generalize p % c = r at *
  have e1 : mulS q c = c * q := by unfold mulS; rw [eqc]; omega
  rw [e1]
  split at eo
  · next h0 =>
    rw [eo, e1]
    have e3 : c * q = p := by omega
    exact ⟨Nat.le_of_eq e3, Nat.le_of_eq e3.symm, fun _ => e3, fun _ => rfl⟩
  · next h0 =>
    have : addS q 1 = q + 1 := Nat.min_eq_left (Nat.succ_le_of_lt hx')
    rw [this] at eo
    rw [eo]
    have e2 : p ≤ mulS (q + 1) c := by unfold mulS; rw [eqs]; omega
    exact ⟨by omega, e2, fun h => absurd h (by omega), fun h => absurd h (by omega)⟩

set_option maxHeartbeats 2000000 in
theorem FixNear_walk (a b c : Nat) (w : World) (ha : a ≤ 18446744073709551615) (hb : b ≤ 18446744073709551615) (hc : c ≤ 18446744073709551615) :
    Calls Try.prog 5 #[.int .u64 (a : Int), .int .u64 (b : Int), .int .u64 (c : Int)] w fun e w' => e = .returned (.bool true) ∧ Below w.heap.size w w' := by
  have HS := Lib.hid (fun w => fix_Share_n a b c w ha hb hc)
  have HO := Lib.hid (fun w => fix_Over_pl a b c w ha hb hc)
  have HM := Lib.hid (fun w => fix_Mul_n a b w ha hb)
  have bx := shareS_le a b c
  have by' := overS_le a b c
  have bp := mulS_le a b
  have HN := Lib.hid (over_near a b c)
  have HI := Lib.hid (near_in a b c)
  generalize shareS a b c = x at *
  generalize overS a b c = y at *
  generalize mulS a b = p at *
  have t1 : ((y : Int) != (x : Int)) = false ∨ (((y : Int) != (x : Int)) = true ∧ ((y : Int) == 0) = false ∧ ((y : Int) - 1 != (x : Int)) = false ∧ 1 ≤ y) := by
    rcases HN.out with h | h
    · exact Or.inl (by simp [h])
    · exact Or.inr ⟨by simp; omega, by simp; omega, by simp; omega, by omega⟩
  have T2 : Hid ((((x : Int) == 18446744073709551615) = true ∨ ((x : Int) == 18446744073709551615) = false ∧ ((p : Int) == 18446744073709551615) = true ∨ ((x : Int) == 18446744073709551615) = false ∧ ((p : Int) == 18446744073709551615) = false ∧ ((c : Int) == 0) = true) ∨
      (((x : Int) == 18446744073709551615) = false ∧ ((p : Int) == 18446744073709551615) = false ∧ ((c : Int) == 0) = false ∧ x ≠ 18446744073709551615 ∧ p ≠ 18446744073709551615 ∧ c ≠ 0)) := by
    refine Lib.hid ?_
    simp only [beq_iff_eq, beq_eq_false_iff_ne]
    omega
  have HM2 := Lib.hid (fun (x : Nat) hx w => fix_Mul_n x c w hx hc)
  have HA := Lib.hid alive01
  rcases T2.out with (g1 | ⟨g1, g2⟩ | ⟨g1, g2, g3⟩) | ⟨g1, g2, g3, n1, n2, n3⟩
  case inr =>
    obtain ⟨k1, k2, k3⟩ := HI.out n1 n2 n3
    have d1 : decide (mulS x c ≤ p) = true := decide_eq_true k1
    have d2 : decide (p ≤ mulS y c) = true := decide_eq_true k2
    have d3 : (((x : Int) == (y : Int)) = true ∧ (((mulS x c : Nat) : Int) == (p : Int)) = true) ∨ (((x : Int) == (y : Int)) = false ∧ (((mulS x c : Nat) : Int) == (p : Int)) = false) := by
      simp only [beq_iff_eq, beq_eq_false_iff_ne]
      omega
    clear k1 k2 k3 n1 n2 n3
    have b1 := mulS_le x c
    have b2 := mulS_le y c
    rcases t1 with h1 | ⟨h1, h2, h3, h4⟩ <;> rcases d3 with ⟨d3, d4⟩ | ⟨d3, d4⟩
    all_goals
      go_enter Try.func5, Try.ntmps5
      go_wp2_with (first | (go_at_call 15; refine (HS.out _).mono ?_; rintro e w' ⟨rfl, n, rfl⟩) | (go_at_call 17; refine (HO.out _).mono ?_; rintro e w1 ⟨rfl, hb1⟩) | (go_at_call 13; ((with_reducible refine (HM.out _).mono ?_); rintro e w' ⟨rfl, rfl⟩)) | (go_at_call 13; ((with_reducible refine (HM2.out _ ?_ _).mono ?_); (omega); rintro e w' ⟨rfl, rfl⟩)) | (go_at_call 8; refine (HA.out _).mono ?_; rintro e w2 ⟨rfl, hb2⟩))
      go_ret
      exact ⟨rfl, ((below_drewN (Below.refl _ _) n).trans hb1).trans (hb2.mono hb1.size)⟩
  all_goals (rcases t1 with h1 | ⟨h1, h2, h3, h4⟩)
  all_goals
    go_enter Try.func5, Try.ntmps5
    go_wp2_with (first | (go_at_call 15; refine (HS.out _).mono ?_; rintro e w' ⟨rfl, n, rfl⟩) | (go_at_call 17; refine (HO.out _).mono ?_; rintro e w1 ⟨rfl, hb1⟩) | (go_at_call 13; ((with_reducible refine (HM.out _).mono ?_); rintro e w' ⟨rfl, rfl⟩)) | (go_at_call 13; ((with_reducible refine (HM2.out _ ?_ _).mono ?_); (omega); rintro e w' ⟨rfl, rfl⟩)) | (go_at_call 8; refine (HA.out _).mono ?_; rintro e w2 ⟨rfl, hb2⟩))
    go_ret
    exact ⟨rfl, ((below_drewN (Below.refl _ _) n).trans hb1).trans (hb2.mono hb1.size)⟩
end Go.Proofs.Ytjaiffmdoodfaaa
