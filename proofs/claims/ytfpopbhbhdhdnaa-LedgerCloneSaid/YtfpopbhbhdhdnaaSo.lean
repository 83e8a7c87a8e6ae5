/- Contracts of package seqs's small functions over this translation. -/
import Derived.Test.YtfpopbhbhdhdnaaSn
import Derived.Test.YtfpopbhbhdhdnaaProg
import Derived.Deep.QuietTactic
import Derived.BigQuiet
import Derived.StillTailTactics
import Derived.Deep.RegionHeld3
import Derived.Deep.LoopGhost
import Derived.Sort.Grow
import Derived.Lib.Hide
set_option linter.unusedVariables false
namespace Go.Proofs.Ytfpopbhbhdhdnaa
open Go.RowKit

def cmpN (a b : Nat) : Int := if a < b then -1 else if b < a then 1 else 0
theorem cmpN_neg (a b : Nat) : cmpN a b < 0 ↔ a < b := by by_cases h : a < b <;> by_cases k : b < a <;> simp [cmpN, h, k]
theorem cmpN_in (a b : Nat) : -1 ≤ cmpN a b ∧ cmpN a b ≤ 1 := by by_cases h : a < b <;> by_cases k : b < a <;> simp [cmpN, h, k]

theorem isNaN_any (a : Nat) (w : World) : Calls Try.prog 92 #[.int .u64 (a : Int)] w fun e w' => e = .returned (.bool false) ∧ w = w' := by
  go_enter Try.func92, Try.ntmps92
  go_wp2
  go_ret
  exact ⟨rfl, rfl⟩
theorem compare_any (a b : Nat) (w : World) : Calls Try.prog 67 #[.int .u64 (a : Int), .int .u64 (b : Int)] w fun e w' => e = .returned (.int .i64 (cmpN a b)) ∧ w = w' := by
  have hn := fun x W => isNaN_any x W
  by_cases h1 : a < b
  · have e : cmpN a b = -1 := by simp [cmpN, h1]
    rw [e]
    clear e
    go_enter Try.func67, Try.ntmps67
    go_wp2_with (go_at_call 92; refine (hn _ _).mono ?_; rintro e w' ⟨rfl, rfl⟩)
    go_ret
    exact ⟨rfl, rfl⟩
  · by_cases h2 : b < a
    · have e : cmpN a b = 1 := by simp [cmpN, h1, h2]
      rw [e]
      clear e
      go_enter Try.func67, Try.ntmps67
      go_wp2_with (go_at_call 92; refine (hn _ _).mono ?_; rintro e w' ⟨rfl, rfl⟩)
      go_ret
      exact ⟨rfl, rfl⟩
    · have e : cmpN a b = 0 := by simp [cmpN, h1, h2]
      rw [e]
      clear e
      go_enter Try.func67, Try.ntmps67
      go_wp2_with (go_at_call 92; refine (hn _ _).mono ?_; rintro e w' ⟨rfl, rfl⟩)
      go_ret
      exact ⟨rfl, rfl⟩

/-- A range against a number: new blocks alone. -/
theorem ends_any (r : Rn) (n : Nat) (w : World) : Calls Try.prog 81 #[r.agg, .int .u64 (n : Int)] w fun e w' => e = .returned (.int .i64 (cmpN r.b n)) ∧ Below w.heap.size w w' := by
  have hc := fun W => compare_any r.b n W
  obtain ⟨x, y⟩ := r
  unfold Rn.agg
  generalize cmpN y n = c at hc ⊢
  dsimp only at hc ⊢
  go_enter Try.func81, Try.ntmps81
  go_wp2_with (go_at_call 67; refine (hc _).mono ?_; rintro e w' ⟨rfl, rfl⟩)
  go_ret
  exact ⟨rfl, (Below.refl _ _).alloc (Nat.le_refl _) _⟩
theorem rising_any (r s : Rn) (W : World) : Calls Try.prog 46 #[r.agg, s.agg] W fun e w' => e = .returned (.int .i64 (cmpN r.a s.a)) ∧ ∃ q os', w' = Go.Sort.grow (W.drewN q) os' := by
  have hc := fun W => compare_any r.a s.a W
  obtain ⟨x, y⟩ := r
  obtain ⟨z, u⟩ := s
  unfold Rn.agg
  generalize cmpN x z = c at hc ⊢
  dsimp only at hc ⊢
  go_enter Try.func46, Try.ntmps46
  go_wp2_with (go_at_call 67; refine (hc _).mono ?_; rintro e w' ⟨rfl, rfl⟩)
  go_ret
  exact ⟨rfl, 0, _, by rw [Go.Sort.alloc_eq_grow, Go.Sort.alloc_eq_grow, Go.Sort.grow_grow]; rfl⟩
theorem wrong_any (r : Rn) (w : World) : Calls Try.prog 42 #[r.agg] w fun e w' => e = .returned (.bool (!okB r)) ∧ Below w.heap.size w w' := by
  obtain ⟨x, y⟩ := r
  unfold Rn.agg okB
  dsimp only
  by_cases h1 : y < x
  · have e : (!!(decide (y < x) || decide (y = 18446744073709551615))) = true := by simp [h1]
    rw [e]
    clear e
    have hd : decide ((y : Nat) < x) = true := by simp [h1]
    go_enter Try.func42, Try.ntmps42
    go_wp2
    go_ret
    exact ⟨rfl, (Below.refl _ _).alloc (Nat.le_refl _) _⟩
  · have hd : decide ((y : Nat) < x) = false := by simp; omega
    obtain ⟨c, hc⟩ : ∃ c, ((y : Int) == (18446744073709551615 : Int)) = c := ⟨_, rfl⟩
    have e : (!!(decide (y < x) || decide (y = 18446744073709551615))) = c := by
      rw [hd, ← hc, Bool.eq_iff_iff]; simp; omega
    rw [e]
    clear e h1
    go_enter Try.func42, Try.ntmps42
    go_wp2
    go_ret
    exact ⟨rfl, (Below.refl _ _).alloc (Nat.le_refl _) _⟩
end Go.Proofs.Ytfpopbhbhdhdnaa
