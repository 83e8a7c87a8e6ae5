/- The live question of layer 1 is answered as it is fixed. -/
import Derived.Test.YtjaiffmdoodfaaaFixB
set_option linter.unusedVariables false
namespace Go.Proofs.Ytjaiffmdoodfaaa
open Go.RowKit Pl

set_option maxHeartbeats 1000000 in
theorem alive01 (w : World) : Calls Try.prog 8 #[] w fun e w' => e = .returned (.bool true) ∧ Below w.heap.size w w' := by
  go_enter Try.func8, Try.ntmps8
  go_wp2_with fail
  refine (fix_Add2 _ _ _ _ _ rfl (by omega) (by omega) (by omega) (by omega)).mono ?_
  rintro e w' ⟨rfl, rfl⟩
  rw [show addS (3 : Int).toNat (4 : Int).toNat = 7 by decide]
  go_wp2_with fail
  refine (fix_Sub2 _ _ _ _ _ _ (by simp) (by omega) (by omega) (by omega) (by omega) (by omega) (by omega)).mono ?_
  rintro e w' ⟨rfl, rfl⟩
  rw [show subS (3 : Int).toNat ((1 : Int).toNat + (4 : Int).toNat) = 0 by decide]
  go_wp2_with fail
  refine (fix_Mul _ _ _ (by omega) (by omega) (by omega) (by omega)).mono ?_
  rintro e w' ⟨rfl, rfl⟩
  rw [show mulS (1099511627776 : Int).toNat (1099511627776 : Int).toNat = 18446744073709551615 by decide]
  go_wp2_with fail
  refine (fix_Share _ _ _ _ (by omega) (by omega) (by omega) (by omega) (by omega) (by omega)).mono ?_
  rintro e w' ⟨rfl, n, rfl⟩
  rw [show shareS (1099511627776 : Int).toNat (1099511627776 : Int).toNat (2199023255552 : Int).toNat = 549755813888 by decide]
  go_wp2_with fail
  refine (fix_Over _ _ _ _ (by omega) (by omega) (by omega) (by omega) (by omega) (by omega)).mono ?_
  rintro e w' ⟨rfl, hb⟩
  rw [show overS (7 : Int).toNat (3 : Int).toNat (4 : Int).toNat = 6 by decide]
  go_wp2_with fail
  refine (fix_Share _ _ _ _ (by omega) (by omega) (by omega) (by omega) (by omega) (by omega)).mono ?_
  rintro e w'' ⟨rfl, m, rfl⟩
  rw [show shareS (0 : Int).toNat (0 : Int).toNat (0 : Int).toNat = 18446744073709551615 by decide]
  go_wp2_with fail
  go_ret
  exact ⟨rfl, below_drewN ((below_drewN (((Below.refl w.heap.size w).alloc (Nat.le_refl _) _).alloc (by simp) _) n).trans (hb.mono (by simp; omega))) m⟩
end Go.Proofs.Ytjaiffmdoodfaaa
