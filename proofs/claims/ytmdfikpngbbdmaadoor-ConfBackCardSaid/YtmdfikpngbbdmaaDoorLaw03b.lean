/- ConfBack's walk: whatever setup and text, the law's call returns true. -/
import Derived.Test.YtmdfikpngbbdmaaDoorLaw03a
import Derived.Test.YtmdfikpngbbdmaaDoorRf
set_option linter.unusedVariables false
namespace Go.Proofs.YtmdfikpngbbdmaaDoor
open Go.RowKit Go.Shelf Cf Pl

def printX (c : Setup) : List UInt8 := if rightC c = true then textC c else []
def printE (c : Setup) : Int := if rightC c = true then 0 else 1
theorem conf_Print (c : Setup) (hc : ∀ k, c k ≤ 18446744073709551615) (w : World) (hg : Gl w) :
    Calls Tryd.prog 6 #[.agg (ccells c)] w fun e w' => e = .returned (.tuple #[.string (ba (printX c)), .int .i64 (printE c)]) ∧ Below w.heap.size w w' := by
  unfold printX printE
  by_cases hr : rightC c = true
  · rw [if_pos hr, if_pos hr]; exact conf_Print_yes c hc w hg hr
  · rw [if_neg hr, if_neg hr]; exact conf_Print_no c hc w (by simpa using hr)
theorem printX_len (c : Setup) (hc : ∀ k, c k ≤ 18446744073709551615) : (printX c).length ≤ 300 := by
  unfold printX; split
  · exact text_len c hc
  · simp
theorem parse_le (s : List UInt8) : ∀ k, parseV s k ≤ 18446744073709551615 := by
  intro k
  unfold parseV
  cases h : parseC s with
  | none => simp
  | some c => exact Nat.le_trans (right_le ((parse_iff s c).1 h).1 k) (by omega)
theorem parse_text {c : Setup} (h : rightC c = true) : parseV (textC c) = c ∧ parseE (textC c) = 0 := by
  have := (parse_iff (textC c) c).2 ⟨h, rfl⟩
  unfold parseV parseE; rw [this]; exact ⟨rfl, rfl⟩
theorem zero_not : rightC zeroC = false := by decide
theorem zero_print : printX zeroC = [] ∧ printE zeroC = 1 := by unfold printX printE; rw [zero_not]; exact ⟨rfl, rfl⟩
/-- What is known of a text: it is some setup's, or none's. -/
theorem parse_two (s : List UInt8) : (parseE s = 0 ∧ rightC (parseV s) = true ∧ printX (parseV s) = s ∧ printE (parseV s) = 0) ∨ (parseE s = 31 ∧ parseV s = zeroC) := by
  cases h : parseC s with
  | none => exact .inr (by unfold parseE parseV; rw [h]; exact ⟨rfl, rfl⟩)
  | some c =>
    obtain ⟨h1, h2⟩ := (parse_iff s c).1 h
    refine .inl ?_
    unfold parseE parseV; rw [h]
    refine ⟨rfl, h1, ?_, ?_⟩
    · show printX c = s; unfold printX; rw [if_pos h1]; exact h2
    · show printE c = 0; unfold printE; rw [if_pos h1]
theorem blank_no (s : List UInt8) : parseE (s ++ [32]) = 31 := by unfold parseE; rw [parse_blank]; rfl

set_option maxRecDepth 100000 in
set_option maxHeartbeats 2000000 in
theorem ConfBack_walk (c : Setup) (hc : ∀ k, c k ≤ 18446744073709551615) (s : List UInt8) (hs : s.length ≤ 9223372036854775807) (w : World) (hg : Gl w) :
    Calls Tryd.prog 4 #[.agg (ccells c), .string (ba s)] w fun e w' => e = .returned (.bool true) ∧ Below w.heap.size w w' := by
  have HL := Lib.hid (fun w' hw' => alive03 w' hw')
  have HG := Lib.hid hg
  have HC := Lib.hid hc
  have hsz := ba_size s
  clear hg hc
  have gA := Lib.hid ((Below.refl w.heap.size w).alloc (Nat.le_refl _) (.cells (ccells c) 24))
  have B0 := Lib.hid (Blk.new w 24 (ccells c))
  by_cases hl : 300 < s.length
  · have d : decide ((300 : Int) < (s.length : Int)) = true := by simp; omega
    clear hl
    go_enter Tryd.func4, Tryd.ntmps4
    go_wp2_with fail
    refine (HL.out _ (HG.out.keep gA.out)).mono ?_
    rintro e w1 ⟨rfl, h1⟩
    have G1 := Lib.hid (bel_to gA.out h1 gA.out.size)
    clear h1
    go_wp2_with fail
    go_ret
    exact ⟨rfl, G1.out⟩
  · have d : decide ((300 : Int) < (s.length : Int)) = false := by simp; omega
    have hl' : s.length ≤ 300 := by omega
    have HS := Lib.hid hl'
    clear hl hl' hs
    have HPX := Lib.hid (printX_len c HC.out)
    have HAB : Hid ((printE c = 0 ∧ parseV (printX c) = c ∧ parseE (printX c) = 0) ∨ printE c = 1) := by
      by_cases hr : rightC c = true
      · refine .inl ?_
        unfold printX printE
        rw [if_pos hr, if_pos hr]
        exact ⟨rfl, parse_text hr⟩
      · refine .inr ?_
        unfold printE; rw [if_neg hr]
    have HPr := Lib.hid (fun w' hw' => conf_Print c HC.out w' hw')
    have HPa := Lib.hid (fun w' hw' => conf_Parse (printX c) (Nat.le_trans HPX.out (by omega)) w' hw')
    have HPs := Lib.hid (fun w' hw' => conf_Parse s (Nat.le_trans HS.out (by omega)) w' hw')
    have HPz := Lib.hid (fun w' hw' => conf_Print (parseV s) (parse_le s) w' hw')
    have HPb := Lib.hid (fun w' hw' => conf_Parse (s ++ [32]) (by have := HS.out; simp; omega) w' hw')
    have HRz := Lib.hid (fun w' => conf_Right (parseV s) (parse_le s) w')
    rw [blank_no] at HPb
    have HT := Lib.hid (parse_two s)
    generalize hx : printX c = X at *
    generalize he : printE c = E at *
    generalize hy : parseV X = y at *
    generalize hf : parseE X = f at *
    generalize hb : parseV (s ++ [32]) = zb at *
    generalize hz : parseV s = z at *
    generalize hgg : parseE s = g at *
    generalize ht : printX z = T at *
    generalize hh : printE z = h at *
    generalize hrz : rightC z = rz at *
    clear hx he hy hf hb HC hz hgg ht hh hrz
    go_enter Tryd.func4, Tryd.ntmps4
    simp only [ccells]
    go_wp2_with fail
    refine (HPr.out _ (HG.out.keep gA.out)).mono ?_
    rintro e w1 ⟨rfl, h1⟩
    have G1 := Lib.hid (bel_to gA.out h1 gA.out.size)
    have B1 := Lib.hid (B0.out.keep h1)
    clear h1 gA B0 HPr
    go_wp2_with fail
    refine (HPa.out _ (HG.out.keep G1.out)).mono ?_
    rintro e w2 ⟨rfl, h2⟩
    have gA := (Below.refl w2.heap.size w2).alloc (Nat.le_refl _) (.cells (ccells y) 24)
    have G2 := Lib.hid (bel_to (bel_to G1.out h2 G1.out.size) gA (Nat.le_trans G1.out.size h2.size))
    have B2 := Lib.hid ((B1.out.keep h2).keep gA)
    have Y2 := Lib.hid (Blk.new w2 24 (ccells y))
    clear h2 gA G1 B1 HPa
    have p0 := ccell B2.out 0
    have p1 := ccell B2.out 1
    have p2 := ccell B2.out 2
    have p3 := ccell B2.out 3
    have p4 := ccell B2.out 4
    have p5 := ccell B2.out 5
    simp only [show (0 : Fin 6).val = 0 from rfl, show (1 : Fin 6).val = 1 from rfl, show (2 : Fin 6).val = 2 from rfl, show (3 : Fin 6).val = 3 from rfl, show (4 : Fin 6).val = 4 from rfl, show (5 : Fin 6).val = 5 from rfl] at p0 p1 p2 p3 p4 p5
    have q0 := ccell Y2.out 0
    have q1 := ccell Y2.out 1
    have q2 := ccell Y2.out 2
    have q3 := ccell Y2.out 3
    have q4 := ccell Y2.out 4
    have q5 := ccell Y2.out 5
    simp only [show (0 : Fin 6).val = 0 from rfl, show (1 : Fin 6).val = 1 from rfl, show (2 : Fin 6).val = 2 from rfl, show (3 : Fin 6).val = 3 from rfl, show (4 : Fin 6).val = 4 from rfl, show (5 : Fin 6).val = 5 from rfl] at q0 q1 q2 q3 q4 q5
    have HAB' := HAB.out
    clear HAB
    simp only [ccells] at q0 q1 q2 q3 q4 q5 p0 p1 p2 p3 p4 p5 ⊢
    rcases HAB' with ⟨rfl, rfl, rfl⟩ | rfl
    all_goals
      go_wp2_with fail
      refine (HPs.out _ (HG.out.keep G2.out)).mono ?_
      rintro e w3 ⟨rfl, h3⟩
      have gA := (Below.refl w3.heap.size w3).alloc (Nat.le_refl _) (.cells (ccells z) 24)
      have G3 := Lib.hid (bel_to (bel_to G2.out h3 G2.out.size) gA (Nat.le_trans G2.out.size h3.size))
      have Z3 := Lib.hid (Blk.new w3 24 (ccells z))
      clear h3 gA G2 B2 Y2 HPs q0 q1 q2 q3 q4 q5 p0 p1 p2 p3 p4 p5
      have q0 := ccell Z3.out 0
      have q1 := ccell Z3.out 1
      have q2 := ccell Z3.out 2
      have q3 := ccell Z3.out 3
      have q4 := ccell Z3.out 4
      have q5 := ccell Z3.out 5
      simp only [show (0 : Fin 6).val = 0 from rfl, show (1 : Fin 6).val = 1 from rfl, show (2 : Fin 6).val = 2 from rfl, show (3 : Fin 6).val = 3 from rfl, show (4 : Fin 6).val = 4 from rfl, show (5 : Fin 6).val = 5 from rfl] at q0 q1 q2 q3 q4 q5
      simp only [ccells] at q0 q1 q2 q3 q4 q5 ⊢
      go_wp2_with fail
      refine (HPz.out _ (HG.out.keep G3.out)).mono ?_
      rintro e w4 ⟨rfl, h4⟩
      have G4 := Lib.hid (bel_to G3.out h4 G3.out.size)
      have Z4 := Lib.hid (Z3.out.keep h4)
      clear h4 G3 Z3 HPz q0 q1 q2 q3 q4 q5
      have hl3 := HS.out
      go_wp2_with fail
      rw [show ba s ++ (⟨#[32]⟩ : ByteArray) = ba (s ++ [32]) from ba_app s [32]]
      refine (HPb.out _ (HG.out.keep G4.out)).mono ?_
      rintro e w5 ⟨rfl, h5⟩
      have gA := (Below.refl w5.heap.size w5).alloc (Nat.le_refl _) (.cells (ccells zb) 24)
      have G5 := Lib.hid (bel_to (bel_to G4.out h5 G4.out.size) gA (Nat.le_trans G4.out.size h5.size))
      have Z5 := Lib.hid ((Z4.out.keep h5).keep gA)
      clear h5 gA G4 Z4 HPb hl3
      have HT' := HT.out
      clear HT
      rcases HT' with ⟨rfl, rfl, rfl, rfl⟩ | ⟨rfl, rfl⟩
      · simp only [ccells]
        go_wp2_with fail
        refine (HL.out _ (HG.out.keep G5.out)).mono ?_
        rintro e w6 ⟨rfl, h6⟩
        have G6 := Lib.hid (bel_to G5.out h6 G5.out.size)
        have Z6 := Lib.hid (Z5.out.keep h6)
        clear h6 G5 Z5
        have q0 := ccell Z6.out 0
        have q1 := ccell Z6.out 1
        have q2 := ccell Z6.out 2
        have q3 := ccell Z6.out 3
        have q4 := ccell Z6.out 4
        have q5 := ccell Z6.out 5
        simp only [show (0 : Fin 6).val = 0 from rfl, show (1 : Fin 6).val = 1 from rfl, show (2 : Fin 6).val = 2 from rfl, show (3 : Fin 6).val = 3 from rfl, show (4 : Fin 6).val = 4 from rfl, show (5 : Fin 6).val = 5 from rfl] at q0 q1 q2 q3 q4 q5
        go_wp2_with fail
        refine (HRz.out _).mono ?_
        rintro e w7 ⟨rfl, h7⟩
        have G7 := Lib.hid (bel_to G6.out h7 G6.out.size)
        clear h7 G6 Z6 q0 q1 q2 q3 q4 q5
        go_wp2_with fail
        go_ret
        exact ⟨rfl, G7.out⟩
      · simp only [ccells]
        go_wp2_with fail
        refine (HL.out _ (HG.out.keep G5.out)).mono ?_
        rintro e w6 ⟨rfl, h6⟩
        have G6 := Lib.hid (bel_to G5.out h6 G5.out.size)
        have Z6 := Lib.hid (Z5.out.keep h6)
        clear h6 G5 Z5
        have q0 := ccell Z6.out 0
        have q1 := ccell Z6.out 1
        have q2 := ccell Z6.out 2
        have q3 := ccell Z6.out 3
        have q4 := ccell Z6.out 4
        have q5 := ccell Z6.out 5
        simp only [show (0 : Fin 6).val = 0 from rfl, show (1 : Fin 6).val = 1 from rfl, show (2 : Fin 6).val = 2 from rfl, show (3 : Fin 6).val = 3 from rfl, show (4 : Fin 6).val = 4 from rfl, show (5 : Fin 6).val = 5 from rfl] at q0 q1 q2 q3 q4 q5
        simp only [zeroC] at q0 q1 q2 q3 q4 q5
        go_wp2_with fail
        go_ret
        exact ⟨rfl, G6.out⟩
end Go.Proofs.YtmdfikpngbbdmaaDoor
