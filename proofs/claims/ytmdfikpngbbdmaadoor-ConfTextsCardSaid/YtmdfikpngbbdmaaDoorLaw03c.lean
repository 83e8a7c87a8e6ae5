/- ConfTexts' walk: whatever setup and text, the law's call returns true. -/
import Derived.Test.YtmdfikpngbbdmaaDoorLaw03b
import Derived.Test.YtmdfikpngbbdmaaDoorRg
import Derived.Test.YtmdfikpngbbdmaaDoorRp
set_option linter.unusedVariables false
namespace Go.Proofs.YtmdfikpngbbdmaaDoor
open Go.RowKit Go.Shelf Cf Pl

theorem ref_Print (c : Setup) (hc : ∀ k, c k ≤ 18446744073709551615) (w : World) :
    Calls Tryd.prog 7 #[.agg (ccells c)] w fun e w' => e = .returned (.tuple #[.string (ba (printX c)), .int .i64 (printE c)]) ∧ Below w.heap.size w w' := by
  unfold printX printE
  by_cases hr : rightC c = true
  · rw [if_pos hr, if_pos hr]; exact ref_Print_yes c hc w hr
  · rw [if_neg hr, if_neg hr]; exact ref_Print_no c w (by simpa using hr)
theorem ref_same (s : List UInt8) : refV s = parseV s ∧ refE s = parseE s := by
  unfold refV refE parseV parseE
  rw [parse_eq]
  exact ⟨rfl, rfl⟩

set_option maxRecDepth 100000 in
set_option maxHeartbeats 2000000 in
theorem ConfTexts_walk (c : Setup) (hc : ∀ k, c k ≤ 18446744073709551615) (s : List UInt8) (hs : s.length ≤ 9223372036854775807) (w : World) (hg : Gl w) :
    Calls Tryd.prog 3 #[.agg (ccells c), .string (ba s)] w fun e w' => e = .returned (.bool true) ∧ Below w.heap.size w w' := by
  have HL := Lib.hid (fun w' hw' => alive03 w' hw')
  have HG := Lib.hid hg
  have HC := Lib.hid hc
  have hsz := ba_size s
  clear hg hc
  have gA := Lib.hid ((Below.refl w.heap.size w).alloc (Nat.le_refl _) (.cells (ccells c) 24))
  have B0 := Lib.hid (Blk.new w 24 (ccells c))
  by_cases hl : 300 < s.length
  · have d : decide ((300 : Int) < (s.length : Int)) = true := by simp; omega
    clear hl
    go_enter Tryd.func3, Tryd.ntmps3
    go_wp2_with fail
    refine (HL.out _ (HG.out.keep gA.out)).mono ?_
    rintro e w1 ⟨rfl, h1⟩
    have G1 := Lib.hid (bel_to gA.out h1 gA.out.size)
    clear h1
    go_wp2_with fail
    go_ret
    exact ⟨rfl, G1.out⟩
  · have d : decide ((300 : Int) < (s.length : Int)) = false := by simp; omega
    have hl' : s.length ≤ 300 := by omega
    have HS := Lib.hid hl'
    clear hl hl' hs
    have HPr := Lib.hid (fun w' hw' => conf_Print c HC.out w' hw')
    have HRr := Lib.hid (fun w' => ref_Print c HC.out w')
    have HPs := Lib.hid (fun w' hw' => conf_Parse s (Nat.le_trans HS.out (by omega)) w' hw')
    have HRs := Lib.hid (fun w' => ref_Parse s HS.out w')
    rw [(ref_same s).1, (ref_same s).2] at HRs
    generalize printX c = X at *
    generalize printE c = E at *
    generalize parseV s = z at *
    generalize parseE s = g at *
    clear HC
    go_enter Tryd.func3, Tryd.ntmps3
    simp only [ccells]
    go_wp2_with fail
    refine (HPr.out _ (HG.out.keep gA.out)).mono ?_
    rintro e w1 ⟨rfl, h1⟩
    have G1 := Lib.hid (bel_to gA.out h1 gA.out.size)
    have B1 := Lib.hid (B0.out.keep h1)
    clear h1 gA B0 HPr
    have p0 := ccell B1.out 0
    have p1 := ccell B1.out 1
    have p2 := ccell B1.out 2
    have p3 := ccell B1.out 3
    have p4 := ccell B1.out 4
    have p5 := ccell B1.out 5
    simp only [show (0 : Fin 6).val = 0 from rfl, show (1 : Fin 6).val = 1 from rfl, show (2 : Fin 6).val = 2 from rfl, show (3 : Fin 6).val = 3 from rfl, show (4 : Fin 6).val = 4 from rfl, show (5 : Fin 6).val = 5 from rfl] at p0 p1 p2 p3 p4 p5
    try simp only [ccells] at p0 p1 p2 p3 p4 p5
    go_wp2_with fail
    refine (HRr.out _).mono ?_
    rintro e w2 ⟨rfl, h2⟩
    have G2 := Lib.hid (bel_to G1.out h2 G1.out.size)
    clear h2 G1 B1 HRr p0 p1 p2 p3 p4 p5
    go_wp2_with fail
    refine (HPs.out _ (HG.out.keep G2.out)).mono ?_
    rintro e w3 ⟨rfl, h3⟩
    have gA := (Below.refl w3.heap.size w3).alloc (Nat.le_refl _) (.cells (ccells z) 24)
    have G3 := Lib.hid (bel_to (bel_to G2.out h3 G2.out.size) gA (Nat.le_trans G2.out.size h3.size))
    have Z3 := Lib.hid (Blk.new w3 24 (ccells z))
    clear h3 gA G2 HPs
    simp only [ccells]
    go_wp2_with fail
    refine (HRs.out _).mono ?_
    rintro e w4 ⟨rfl, h4⟩
    have gA := (Below.refl w4.heap.size w4).alloc (Nat.le_refl _) (.cells (ccells z) 24)
    have G4 := Lib.hid (bel_to (bel_to G3.out h4 G3.out.size) gA (Nat.le_trans G3.out.size h4.size))
    have Z4 := Lib.hid ((Z3.out.keep h4).keep gA)
    have Y4 := Lib.hid (Blk.new w4 24 (ccells z))
    clear h4 gA G3 Z3 HRs
    simp only [ccells]
    go_wp2_with fail
    refine (HL.out _ (HG.out.keep G4.out)).mono ?_
    rintro e w5 ⟨rfl, h5⟩
    have G5 := Lib.hid (bel_to G4.out h5 G4.out.size)
    have Z5 := Lib.hid (Z4.out.keep h5)
    have Y5 := Lib.hid (Y4.out.keep h5)
    clear h5 G4 Z4 Y4
    have p0 := ccell Z5.out 0
    have p1 := ccell Z5.out 1
    have p2 := ccell Z5.out 2
    have p3 := ccell Z5.out 3
    have p4 := ccell Z5.out 4
    have p5 := ccell Z5.out 5
    simp only [show (0 : Fin 6).val = 0 from rfl, show (1 : Fin 6).val = 1 from rfl, show (2 : Fin 6).val = 2 from rfl, show (3 : Fin 6).val = 3 from rfl, show (4 : Fin 6).val = 4 from rfl, show (5 : Fin 6).val = 5 from rfl] at p0 p1 p2 p3 p4 p5
    have q0 := ccell Y5.out 0
    have q1 := ccell Y5.out 1
    have q2 := ccell Y5.out 2
    have q3 := ccell Y5.out 3
    have q4 := ccell Y5.out 4
    have q5 := ccell Y5.out 5
    simp only [show (0 : Fin 6).val = 0 from rfl, show (1 : Fin 6).val = 1 from rfl, show (2 : Fin 6).val = 2 from rfl, show (3 : Fin 6).val = 3 from rfl, show (4 : Fin 6).val = 4 from rfl, show (5 : Fin 6).val = 5 from rfl] at q0 q1 q2 q3 q4 q5
    try simp only [ccells] at p0 p1 p2 p3 p4 p5 q0 q1 q2 q3 q4 q5
    go_wp2_with fail
    go_ret
    exact ⟨rfl, G5.out⟩
end Go.Proofs.YtmdfikpngbbdmaaDoor
