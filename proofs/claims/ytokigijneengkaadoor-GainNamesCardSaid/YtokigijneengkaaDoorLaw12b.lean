/- GainTells and GainNames over this translation: the walks. -/
import Derived.Test.YtokigijneengkaaDoorLaw12a
set_option linter.unusedVariables false
namespace Go.Proofs.YtokigijneengkaaDoor
open Go.RowKit Go.Maps Pl

set_option maxHeartbeats 1000000 in
theorem GainTells_walk (s : Int) (x y : Nat) (hx : x ≤ 18446744073709551615) (hy : y ≤ 18446744073709551615) (w : World) (hg : Gl w) :
    Calls Tryd.prog 3 #[.int .i64 s, .int .u64 (x : Int), .int .u64 (y : Int)] w fun e w' => e = .returned (.bool true) ∧ Below w.heap.size w w' := by
  have HG := Lib.hid hg
  have HX := Lib.hid hx
  have HY := Lib.hid hy
  have G0 := Lib.hid (Below.refl w.heap.size w)
  have HA := Lib.hid (alive12 w hg)
  have R1 := Lib.hid (fun w hw => ga_Right s w hw)
  have R2 := Lib.hid (fun w => rg_Right s w)
  have N1 := Lib.hid (fun w => ga_Name s w)
  have N2 := Lib.hid (fun w => rg_Name s w)
  have P1 := Lib.hid (fun w hw => ga_Pace s x hx w hw)
  have P2 := Lib.hid (fun w => rg_Pace s x hx w)
  have V1 := Lib.hid (fun w hw => ga_Window s y hy w hw)
  have V2 := Lib.hid (fun w => rg_Window s y hy w)
  generalize decide (stG s < 7) = r at *
  generalize nmB (stG s) = n at *
  generalize paceG (stG s) x = p at *
  generalize windowG (stG s) y = v at *
  have er : (r == r) = true := by simp
  have en : (n.toList == n.toList) = true := by simp
  clear hg hx hy
  go_enter Tryd.func3, Tryd.ntmps3
  go_wp2_with fail
  refine (HA.out).mono ?_
  rintro e w1 ⟨rfl, h1⟩
  have G1 := Lib.hid (bel_to G0.out h1 G0.out.size)
  clear h1 G0
  go_wp2_with fail
  refine (R1.out _ (HG.out.keep G1.out)).mono ?_
  rintro e w2 ⟨rfl, h1⟩
  have G2 := Lib.hid (bel_to G1.out h1 G1.out.size)
  clear h1 G1
  go_wp2_with fail
  refine (R2.out _).mono ?_
  rintro e w3 ⟨rfl, rfl⟩
  go_wp2_with fail
  refine (N1.out _).mono ?_
  rintro e w3 ⟨rfl, h1⟩
  have G3 := Lib.hid (bel_to G2.out h1 G2.out.size)
  clear h1 G2
  go_wp2_with fail
  refine (N2.out _).mono ?_
  rintro e w4 ⟨rfl, h1⟩
  have G4 := Lib.hid (bel_to G3.out h1 G3.out.size)
  clear h1 G3
  go_wp2_with fail
  refine (P1.out _ (HG.out.keep G4.out)).mono ?_
  rintro e w5 ⟨rfl, h1⟩
  have G5 := Lib.hid (bel_to G4.out h1 G4.out.size)
  clear h1 G4
  go_wp2_with fail
  refine (P2.out _).mono ?_
  rintro e w6 ⟨rfl, h1⟩
  have G6 := Lib.hid (bel_to G5.out h1 G5.out.size)
  clear h1 G5
  go_wp2_with fail
  refine (V1.out _ (HG.out.keep G6.out)).mono ?_
  rintro e w7 ⟨rfl, h1⟩
  have G7 := Lib.hid (bel_to G6.out h1 G6.out.size)
  clear h1 G6
  go_wp2_with fail
  refine (V2.out _).mono ?_
  rintro e w8 ⟨rfl, h1⟩
  have G8 := Lib.hid (bel_to G7.out h1 G7.out.size)
  clear h1 G7
  go_wp2_with fail
  go_ret
  exact ⟨rfl, G8.out⟩

set_option maxHeartbeats 1000000 in
theorem GainNames_walk (s : ByteArray) (w : World) (hg : Gl w) :
    Calls Tryd.prog 4 #[.string s] w fun e w' => e = .returned (.bool true) ∧ Below w.heap.size w w' := by
  have HG := Lib.hid hg
  have G0 := Lib.hid (Below.refl w.heap.size w)
  have HA := Lib.hid (fun w hw => alive12 w hw)
  clear hg
  by_cases h : 100 < s.size
  · have hc : decide (100 < (s.size : Int)) = true := decide_eq_true (by omega)
    clear h
    go_enter Tryd.func4, Tryd.ntmps4
    go_wp2_with fail
    refine (HA.out _ HG.out).mono ?_
    rintro e w1 ⟨rfl, h1⟩
    have G1 := Lib.hid h1
    clear h1
    go_wp2_with fail
    go_ret
    exact ⟨rfl, G1.out⟩
  · have hc : decide (100 < (s.size : Int)) = false := decide_eq_false (by omega)
    have hc' : decide (100 < s.size) = false := decide_eq_false h
    have P1 := Lib.hid (fun w => ga_Parse s (by unfold maxLen; omega) w)
    have P2 := Lib.hid (fun w => rg_Parse s w)
    generalize parS s.data.toList = a at *
    generalize parE s.data.toList = b at *
    clear h
    go_enter Tryd.func4, Tryd.ntmps4
    go_wp2_with fail
    refine (P1.out _).mono ?_
    rintro e w1 ⟨rfl, h1⟩
    have G1 := Lib.hid (bel_to G0.out h1 G0.out.size)
    clear h1 G0
    go_wp2_with fail
    refine (P2.out _).mono ?_
    rintro e w2 ⟨rfl, h1⟩
    have G2 := Lib.hid (bel_to G1.out h1 G1.out.size)
    clear h1 G1
    go_wp2_with fail
    refine (HA.out _ (HG.out.keep G2.out)).mono ?_
    rintro e w3 ⟨rfl, h1⟩
    have G3 := Lib.hid (bel_to G2.out h1 G2.out.size)
    clear h1 G2
    go_wp2_with fail
    go_ret
    exact ⟨rfl, G3.out⟩
end Go.Proofs.YtokigijneengkaaDoor
