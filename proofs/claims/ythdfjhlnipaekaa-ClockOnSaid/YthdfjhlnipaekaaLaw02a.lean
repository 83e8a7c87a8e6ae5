/- The live question of layer 2 is answered as it is fixed. -/
import Derived.Test.YthdfjhlnipaekaaRef02
import Derived.Deep.RegionHeld3
set_option linter.unusedVariables false
namespace Go.Proofs.Ythdfjhlnipaekaa
open Go.RowKit Pl

set_option maxHeartbeats 1000000 in
theorem alive02 (w : World) : Calls Try.prog 5 #[] w fun e w' => e = .returned (.bool true) ∧ Below w.heap.size w w' := by
  go_enter Try.func5, Try.ntmps5
  go_wp2_with fail
  refine (clock_New _).mono ?_
  rintro e w0 ⟨rfl, rfl⟩
  have b0 := Lib.hid (Blk.new w 39 CS.zero.cells)
  have g0 := Lib.hid ((Below.refl w.heap.size w).alloc (Nat.le_refl _) (.cells CS.zero.cells 39))
  generalize w.alloc (.cells CS.zero.cells 39) = w0 at *
  go_wp2_with fail
  refine (clock_To _ 5 CS.zero _ b0.out).mono ?_
  rintro e w1 ⟨rfl, b1, g1⟩
  have B1 := Lib.hid b1
  have G1 := Lib.hid (bel_gr g0.out g1 g0.out.size (Nat.le_refl _))
  clear b1 g1
  go_wp2_with fail
  refine (clock_To _ 4 ⟨5, 0, false⟩ _ B1.out).mono ?_
  rintro e w2 ⟨rfl, b2, g2⟩
  have B2 := Lib.hid b2
  have G2 := Lib.hid (bel_gr G1.out g2 G1.out.size (Nat.le_refl _))
  clear b2 g2
  go_wp2_with fail
  refine (clock_Count _ 7 ⟨5, 0, false⟩ _ B2.out (by decide) (by decide)).mono ?_
  rintro e w3 ⟨rfl, b3, g3⟩
  have B3 := Lib.hid b3
  have G3 := Lib.hid (bel_gr G2.out g3 G2.out.size (Nat.le_refl _))
  clear b3 g3
  go_wp2_with fail
  refine (clock_To _ 4398046511105 ⟨5, 7, false⟩ _ B3.out).mono ?_
  rintro e w4 ⟨rfl, b4, g4⟩
  have B4 := Lib.hid b4
  have G4 := Lib.hid (bel_gr G3.out g4 G3.out.size (Nat.le_refl _))
  clear b4 g4
  go_wp2_with fail
  refine (clock_Count _ 1 ⟨5, 7, true⟩ _ B4.out (by decide) (by decide)).mono ?_
  rintro e w5 ⟨rfl, b5, g5⟩
  have B5 := Lib.hid b5
  have G5 := Lib.hid (bel_gr G4.out g5 G4.out.size (Nat.le_refl _))
  clear b5 g5
  rw [show CS.zero.toE 5 = 0 by decide, show CS.toE ⟨5, 0, false⟩ 4 = 2 by decide, show CS.countE ⟨5, 0, false⟩ 7 = 0 by decide, show CS.toE ⟨5, 7, false⟩ 4398046511105 = 3 by decide, show CS.countE ⟨5, 7, true⟩ 1 = 3 by decide]
  go_wp2_with fail
  refine (clock_Time _ ⟨5, 7, true⟩ _ B5.out).mono ?_
  rintro e w6 ⟨rfl, h6⟩
  have B6 := Lib.hid (B5.out.keep h6)
  have G6 := Lib.hid (bel_to G5.out h6 G5.out.size)
  clear h6
  go_wp2_with fail
  refine (clock_Bytes _ ⟨5, 7, true⟩ _ B6.out).mono ?_
  rintro e w7 ⟨rfl, h7⟩
  have B7 := Lib.hid (B6.out.keep h7)
  have G7 := Lib.hid (bel_to G6.out h7 G6.out.size)
  clear h7
  go_wp2_with fail
  refine (clock_Past _ ⟨5, 7, true⟩ _ B7.out).mono ?_
  rintro e w8 ⟨rfl, h8⟩
  have G8 := Lib.hid (bel_to G7.out h8 G7.out.size)
  clear h8
  go_wp2_with fail
  go_ret
  exact ⟨rfl, G8.out⟩
end Go.Proofs.Ythdfjhlnipaekaa
