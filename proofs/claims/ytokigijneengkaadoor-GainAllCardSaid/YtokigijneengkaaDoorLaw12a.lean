/- The live question of layer 12 is answered as it is fixed. -/
import Derived.Test.YtokigijneengkaaDoorGd
set_option linter.unusedVariables false
namespace Go.Proofs.YtokigijneengkaaDoor
open Go.RowKit Go.Maps Pl

set_option maxHeartbeats 1000000 in
theorem alive12 (w : World) (hg : Gl w) : Calls Tryd.prog 6 #[] w fun e w' => e = .returned (.bool true) ∧ Below w.heap.size w w' := by
  have HP := Lib.hid (fun w => ga_Parse ⟨#[117, 112]⟩ (by decide) w)
  rw [show parS (⟨#[117, 112]⟩ : ByteArray).data.toList = 5 by decide, show parE (⟨#[117, 112]⟩ : ByteArray).data.toList = 0 by decide] at HP
  have HQ := Lib.hid (fun w => ga_Parse ⟨#[85, 112]⟩ (by decide) w)
  rw [show parS (⟨#[85, 112]⟩ : ByteArray).data.toList = 0 by decide, show parE (⟨#[85, 112]⟩ : ByteArray).data.toList = 31 by decide] at HQ
  have HN := Lib.hid (fun w => ga_Name 1 w)
  rw [show nmB (stG 1) = ⟨#[100, 114, 97, 105, 110]⟩ from rfl] at HN
  have HC := Lib.hid (fun w hw => ga_Pace 0 1000 (by omega) w hw)
  rw [show paceG (stG 0) 1000 = 2770 by decide] at HC
  have HV := Lib.hid (fun w hw => ga_Window 6 3 (by omega) w hw)
  rw [show windowG (stG 6) 3 = 2 by decide] at HV
  have HG := Lib.hid hg
  have G0 := Lib.hid (Below.refl w.heap.size w)
  clear hg
  go_enter Tryd.func6, Tryd.ntmps6
  go_wp2_with fail
  refine (HP.out _).mono ?_
  rintro e w1 ⟨rfl, h1⟩
  have G1 := Lib.hid (bel_to G0.out h1 G0.out.size)
  clear h1 G0
  go_wp2_with fail
  refine (HQ.out _).mono ?_
  rintro e w2 ⟨rfl, h1⟩
  have G2 := Lib.hid (bel_to G1.out h1 G1.out.size)
  clear h1 G1
  go_wp2_with fail
  refine (HN.out _).mono ?_
  rintro e w3 ⟨rfl, h1⟩
  have G3 := Lib.hid (bel_to G2.out h1 G2.out.size)
  clear h1 G2
  go_wp2_with fail
  refine (HC.out _ (HG.out.keep G3.out)).mono ?_
  rintro e w4 ⟨rfl, h1⟩
  have G4 := Lib.hid (bel_to G3.out h1 G3.out.size)
  clear h1 G3
  go_wp2_with fail
  refine (HV.out _ (HG.out.keep G4.out)).mono ?_
  rintro e w5 ⟨rfl, h1⟩
  have G5 := Lib.hid (bel_to G4.out h1 G4.out.size)
  clear h1 G4
  go_wp2_with fail
  go_ret
  exact ⟨rfl, G5.out⟩
end Go.Proofs.YtokigijneengkaaDoor
