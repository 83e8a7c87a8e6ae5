/- The live question of layer 3 is answered as it is fixed. -/
import Derived.Test.YtmdfikpngbbdmaaDoorPa
import Derived.Test.YtmdfikpngbbdmaaDoorQu
set_option linter.unusedVariables false
namespace Go.Proofs.YtmdfikpngbbdmaaDoor
open Go.RowKit Go.Shelf Cf Pl

def defText : List UInt8 := [109, 115, 115, 32, 49, 53, 48, 48, 32, 105, 110, 105, 116, 32, 49, 48, 32, 114, 101, 111, 114, 100, 101, 114, 32, 51, 32, 119, 105, 110, 100, 111, 119, 32, 49, 48, 48, 48, 48, 48, 48, 48, 32, 112, 114, 111, 98, 101, 32, 50, 48, 48, 48, 48, 48, 32, 108, 111, 115, 115, 32, 50, 48]
theorem def_right : rightC defC = true := by decide
theorem def_le : ∀ k, defC k ≤ 18446744073709551615 := fun k => Nat.le_trans (right_le def_right k) (by omega)
theorem def_text : textC defC = defText := by
  rw [text_eq, show defC 0 = 1500 from rfl, show defC 1 = 10 from rfl, show defC 2 = 3 from rfl, show defC 3 = 10000000 from rfl, show defC 4 = 200000 from rfl, show defC 5 = 20 from rfl]
  have d0 : Lib.decDigits 1500 = [49, 53, 48, 48] := by simp [Lib.decDigits]
  have d1 : Lib.decDigits 10 = [49, 48] := by simp [Lib.decDigits]
  have d2 : Lib.decDigits 3 = [51] := by simp [Lib.decDigits]
  have d3 : Lib.decDigits 10000000 = [49, 48, 48, 48, 48, 48, 48, 48] := by simp [Lib.decDigits]
  have d4 : Lib.decDigits 200000 = [50, 48, 48, 48, 48, 48] := by simp [Lib.decDigits]
  have d5 : Lib.decDigits 20 = [50, 48] := by simp [Lib.decDigits]
  rw [d0, d1, d2, d3, d4, d5]
  rfl
theorem mss1 : parseV [109, 115, 115, 32, 49] = zeroC ∧ parseE [109, 115, 115, 32, 49] = 31 := by
  have h : parseC [109, 115, 115, 32, 49] = none := by
    rw [parse_eq]; unfold parseR; rw [if_neg (by decide)]
  unfold parseV parseE
  rw [h]
  exact ⟨rfl, rfl⟩

set_option maxRecDepth 100000 in
set_option maxHeartbeats 1000000 in
theorem alive03 (w : World) (hg : Gl w) : Calls Tryd.prog 5 #[] w fun e w' => e = .returned (.bool true) ∧ Below w.heap.size w w' := by
  have HP := Lib.hid (fun w' hw' => conf_Print_yes defC def_le w' hw' def_right)
  rw [def_text, show ba defText = (⟨#[109, 115, 115, 32, 49, 53, 48, 48, 32, 105, 110, 105, 116, 32, 49, 48, 32, 114, 101, 111, 114, 100, 101, 114, 32, 51, 32, 119, 105, 110, 100, 111, 119, 32, 49, 48, 48, 48, 48, 48, 48, 48, 32, 112, 114, 111, 98, 101, 32, 50, 48, 48, 48, 48, 48, 32, 108, 111, 115, 115, 32, 50, 48]⟩ : ByteArray) from rfl] at HP
  have HA := Lib.hid (fun w' hw' => conf_Parse [109, 115, 115, 32, 49] (by decide) w' hw')
  rw [mss1.1, mss1.2] at HA
  have HR := Lib.hid (fun w' => conf_Right defC def_le w')
  rw [def_right] at HR
  have HQ := Lib.hid (fun w' => conf_Quantum defC 5000000 w' (def_le 0) (by omega))
  rw [show quantumC (defC 0) 5000000 = 5000 by decide] at HQ
  have HF := Lib.hid (fun w' => conf_Flight 1000 1500 w' (by omega) (by omega))
  rw [show overS 1000 1500 1000000 = 2 by decide] at HF
  have HG := Lib.hid hg
  clear hg
  go_enter Tryd.func5, Tryd.ntmps5
  go_wp2_with fail
  refine (conf_Default _).mono ?_
  rintro e w1 ⟨rfl, h1⟩
  have G1 := Lib.hid (bel_to (Below.refl _ _) h1 (Nat.le_refl _))
  clear h1
  have gA := (Below.refl w1.heap.size w1).alloc (Nat.le_refl _) (.cells (ccells defC) 24)
  have G2 := Lib.hid (bel_to G1.out gA G1.out.size)
  have B2 := Lib.hid (Blk.new w1 24 (ccells defC))
  clear gA G1
  simp only [ccells]
  go_wp2_with fail
  refine (HP.out _ (HG.out.keep G2.out)).mono ?_
  rintro e w2 ⟨rfl, h2⟩
  have G3 := Lib.hid (bel_to G2.out h2 G2.out.size)
  have B3 := Lib.hid (B2.out.keep h2)
  clear h2 G2 B2 HP
  go_wp2_with fail
  refine (HA.out _ (HG.out.keep G3.out)).mono ?_
  rintro e w3 ⟨rfl, h3⟩
  have G4 := Lib.hid (bel_to G3.out h3 G3.out.size)
  have B4 := Lib.hid (B3.out.keep h3)
  clear h3 G3 B3 HA
  have gA := (Below.refl w3.heap.size w3).alloc (Nat.le_refl _) (.cells (ccells zeroC) 24)
  have G5 := Lib.hid (bel_to G4.out gA G4.out.size)
  have B5 := Lib.hid (B4.out.keep gA)
  clear gA G4 B4
  have q0 := ccell B5.out 0
  have q1 := ccell B5.out 1
  have q2 := ccell B5.out 2
  have q3 := ccell B5.out 3
  have q4 := ccell B5.out 4
  have q5 := ccell B5.out 5
  simp only [show (0 : Fin 6).val = 0 from rfl, show (1 : Fin 6).val = 1 from rfl, show (2 : Fin 6).val = 2 from rfl, show (3 : Fin 6).val = 3 from rfl, show (4 : Fin 6).val = 4 from rfl, show (5 : Fin 6).val = 5 from rfl] at q0 q1 q2 q3 q4 q5
  simp only [ccells] at q0 q1 q2 q3 q4 q5 ⊢
  go_wp2_with fail
  refine (HR.out _).mono ?_
  rintro e w5 ⟨rfl, h5⟩
  have G6 := Lib.hid (bel_to G5.out h5 G5.out.size)
  have B6 := Lib.hid (B5.out.keep h5)
  clear h5 G5 B5 HR q0 q1 q2 q3 q4 q5
  have q0 := ccell B6.out 0
  have q1 := ccell B6.out 1
  have q2 := ccell B6.out 2
  have q3 := ccell B6.out 3
  have q4 := ccell B6.out 4
  have q5 := ccell B6.out 5
  simp only [show (0 : Fin 6).val = 0 from rfl, show (1 : Fin 6).val = 1 from rfl, show (2 : Fin 6).val = 2 from rfl, show (3 : Fin 6).val = 3 from rfl, show (4 : Fin 6).val = 4 from rfl, show (5 : Fin 6).val = 5 from rfl] at q0 q1 q2 q3 q4 q5
  go_wp2_with fail
  refine (HQ.out _).mono ?_
  rintro e w6 ⟨rfl, h6⟩
  have G7 := Lib.hid (bel_to G6.out h6 G6.out.size)
  clear h6 G6 B6 HQ q0 q1 q2 q3 q4 q5
  go_wp2_with fail
  refine (HF.out _).mono ?_
  rintro e w7 ⟨rfl, h7⟩
  have G8 := Lib.hid (bel_to G7.out h7 G7.out.size)
  clear h7 G7 HF
  go_wp2_with fail
  go_ret
  exact ⟨rfl, G8.out⟩
end Go.Proofs.YtmdfikpngbbdmaaDoor
