/- The live question of layer 16 is answered as it is fixed. -/
import Derived.Test.YtafmfkgaijnfbaaPb
set_option linter.unusedVariables false
namespace Go.Proofs.Ytafmfkgaijnfbaa
open Go.RowKit

theorem pt_gr {W w w' : World} {b : Nat} {r : Value} {s : PS} {e : Ending} (g : Below W.heap.size W w) (hb : W.heap.size ≤ b) (k : PPost w b r s e w') : Below W.heap.size W w' := bel_gr g k.gr g.size hb

set_option maxHeartbeats 1000000 in
theorem alive16 (w : World) : Calls Try.prog 7 #[] w fun e w' => e = .returned (.bool true) ∧ Below w.heap.size w w' := by
  have e1 : PS.zero.tickS 10 1000000 100 = ⟨1000000, 100, 10, 10000000⟩ := rfl
  have e2 : PS.takeS ⟨1000000, 100, 10, 10000000⟩ 11 = ⟨1000000, 100, 10, 10000000⟩ := rfl
  have e3 : PS.takeS ⟨1000000, 100, 10, 10000000⟩ 4 = ⟨1000000, 100, 10, 6000000⟩ := rfl
  have e4 : PS.tickS ⟨1000000, 100, 10, 6000000⟩ 9 1 1 = ⟨1000000, 100, 10, 6000000⟩ := rfl
  have e5 : PS.fillS ⟨1000000, 100, 10, 6000000⟩ = ⟨1000000, 100, 10, 100000000⟩ := rfl
  have a1 : PS.zero.tickE 10 = 0 := rfl
  have a2 : PS.takeB ⟨1000000, 100, 10, 10000000⟩ 11 = false := rfl
  have a3 : PS.takeB ⟨1000000, 100, 10, 10000000⟩ 4 = true := rfl
  have a4 : PS.nextT ⟨1000000, 100, 10, 6000000⟩ 50 = 54 := rfl
  have a5 : PS.nextB ⟨1000000, 100, 10, 6000000⟩ 50 = true := rfl
  have a6 : PS.tickE ⟨1000000, 100, 10, 6000000⟩ 9 = 2 := rfl
  have a7 : PS.nextB ⟨1000000, 100, 10, 6000000⟩ 101 = false := rfl
  have o0 : PS.zero.ok := PS.zero_ok
  have o1 : PS.ok ⟨1000000, 100, 10, 10000000⟩ := by unfold PS.ok; dsimp; omega
  have o2 : PS.ok ⟨1000000, 100, 10, 6000000⟩ := by unfold PS.ok; dsimp; omega
  have O0 := Lib.hid o0
  have O1 := Lib.hid o1
  have O2 := Lib.hid o2
  clear o0 o1 o2
  have E1 := Lib.hid e1
  have E2 := Lib.hid e2
  have E3 := Lib.hid e3
  have E4 := Lib.hid e4
  have E5 := Lib.hid e5
  clear e1 e2 e3 e4 e5
  go_enter Try.func7, Try.ntmps7
  go_wp2_with fail
  refine (pc_New _).mono ?_
  rintro e w0 ⟨rfl, rfl⟩
  have b0 := Lib.hid (Blk.new w 47 PS.zero.cells)
  have g0 := Lib.hid (al_be w (.cells PS.zero.cells 47))
  generalize w.alloc (.cells PS.zero.cells 47) = w0 at *
  go_wp2_with fail
  refine (pc_Tick _ 10 1000000 100 PS.zero _ b0.out O0.out (by omega) (by omega) (by omega)).mono ?_
  rintro e w1 h1
  obtain rfl := h1.e
  rw [E1.out, a1] at h1
  have b1 := Lib.hid h1.blk
  have g1 := Lib.hid (pt_gr g0.out (Nat.le_refl _) h1)
  clear h1
  rw [a1]
  go_wp2_with fail
  refine (pc_Take _ 11 ⟨1000000, 100, 10, 10000000⟩ _ b1.out O1.out (by omega)).mono ?_
  rintro e w2 h1
  obtain rfl := h1.e
  rw [E2.out] at h1
  have b2 := Lib.hid h1.blk
  have g2 := Lib.hid (pt_gr g1.out (Nat.le_refl _) h1)
  clear h1
  rw [a2]
  go_wp2_with fail
  refine (pc_Take _ 4 ⟨1000000, 100, 10, 10000000⟩ _ b2.out O1.out (by omega)).mono ?_
  rintro e w3 h1
  obtain rfl := h1.e
  rw [E3.out] at h1
  have b3 := Lib.hid h1.blk
  have g3 := Lib.hid (pt_gr g2.out (Nat.le_refl _) h1)
  clear h1
  rw [a3]
  go_wp2_with fail
  refine (pc_Next _ 50 ⟨1000000, 100, 10, 6000000⟩ _ b3.out O2.out (by omega)).mono ?_
  rintro e w4 ⟨rfl, hb⟩
  have b4 := Lib.hid (b3.out.keep hb)
  have g4 := Lib.hid (bel_to g3.out hb g3.out.size)
  clear hb
  rw [a4, a5]
  go_wp2_with fail
  refine (pc_Tick _ 9 1 1 ⟨1000000, 100, 10, 6000000⟩ _ b4.out O2.out (by omega) (by omega) (by omega)).mono ?_
  rintro e w5 h1
  obtain rfl := h1.e
  rw [E4.out, a6] at h1
  have b5 := Lib.hid h1.blk
  have g5 := Lib.hid (pt_gr g4.out (Nat.le_refl _) h1)
  clear h1
  rw [a6]
  go_wp2_with fail
  refine (pc_Next _ 101 ⟨1000000, 100, 10, 6000000⟩ _ b5.out O2.out (by omega)).mono ?_
  rintro e w6 ⟨rfl, hb⟩
  have b6 := Lib.hid (b5.out.keep hb)
  have g6 := Lib.hid (bel_to g5.out hb g5.out.size)
  clear hb
  rw [a7]
  generalize PS.nextT ⟨1000000, 100, 10, 6000000⟩ 101 = tt at *
  go_wp2_with fail
  refine (pc_Fill _ ⟨1000000, 100, 10, 6000000⟩ _ b6.out O2.out).mono ?_
  rintro e w7 h1
  obtain rfl := h1.e
  rw [E5.out] at h1
  have b7 := Lib.hid h1.blk
  have g7 := Lib.hid (pt_gr g6.out (Nat.le_refl _) h1)
  clear h1
  go_wp2_with (go_at_call 17; (refine (pc_Credit _ ⟨1000000, 100, 10, 100000000⟩ _ b7.out).mono ?_); rintro e w' ⟨rfl, rfl⟩)
  go_ret
  exact ⟨rfl, g7.out⟩
end Go.Proofs.Ytafmfkgaijnfbaa
