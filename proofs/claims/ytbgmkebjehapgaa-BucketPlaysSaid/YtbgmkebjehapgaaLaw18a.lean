/- The live question of layer 18 is answered as it is fixed. -/
import Derived.Test.YtbgmkebjehapgaaBk
set_option linter.unusedVariables false
namespace Go.Proofs.Ytbgmkebjehapgaa
open Go.RowKit

theorem kt_gr {W w w' : World} {b : Nat} {r : Value} {s : KB} {e : Ending} (g : Below W.heap.size W w) (hb : W.heap.size ≤ b) (k : KPost w b r s e w') : Below W.heap.size W w' := bel_gr g k.gr g.size hb

set_option maxHeartbeats 1000000 in
theorem alive18 (w : World) : Calls Try.prog 6 #[] w fun e w' => e = .returned (.bool true) ∧ Below w.heap.size w w' := by
  have o1 : Hid (KB.ok ⟨20000000, 0, 2000000, 10⟩) := Lib.hid (by unfold KB.ok; dsimp; omega)
  have o2 : Hid (KB.ok ⟨5000000, 0, 2000000, 10⟩) := Lib.hid (by unfold KB.ok; dsimp; omega)
  have o3 : Hid (KB.ok ⟨0, 5000000, 2000000, 10⟩) := Lib.hid (by unfold KB.ok; dsimp; omega)
  have o0 := Lib.hid (KB.start_ok (r := 2000000) (by omega))
  go_enter Try.func6, Try.ntmps6
  go_wp2_with fail
  refine (bk_New 2000000 _).mono ?_
  rintro e w0 ⟨rfl, rfl⟩
  have b0 := Lib.hid (Blk.new w 43 (KB.start 2000000).cells)
  have g0 := Lib.hid (al_be w (.cells (KB.start 2000000).cells 43))
  generalize w.alloc (.cells (KB.start 2000000).cells 43) = w0 at *
  go_wp2_with fail
  refine (bk_To _ 10 (KB.start 2000000) _ b0.out o0.out (by omega)).mono ?_
  rintro e w1 h1
  have h1 : KPost w0 w.heap.size (.tuple #[]) ⟨20000000, 0, 2000000, 10⟩ e w1 := h1
  obtain rfl := h1.e
  have b1 := Lib.hid h1.blk
  have g1 := Lib.hid (kt_gr g0.out (Nat.le_refl _) h1)
  clear h1
  go_wp2_with fail
  refine (bk_Take _ 21 ⟨20000000, 0, 2000000, 10⟩ _ b1.out o1.out (by omega)).mono ?_
  rintro e w2 h1
  have h1 : KPost w1 w.heap.size (.bool false) ⟨20000000, 0, 2000000, 10⟩ e w2 := h1
  obtain rfl := h1.e
  have b2 := Lib.hid h1.blk
  have g2 := Lib.hid (kt_gr g1.out (Nat.le_refl _) h1)
  clear h1
  go_wp2_with fail
  refine (bk_Take _ 15 ⟨20000000, 0, 2000000, 10⟩ _ b2.out o1.out (by omega)).mono ?_
  rintro e w3 h1
  have h1 : KPost w2 w.heap.size (.bool true) ⟨5000000, 0, 2000000, 10⟩ e w3 := h1
  obtain rfl := h1.e
  have b3 := Lib.hid h1.blk
  have g3 := Lib.hid (kt_gr g2.out (Nat.le_refl _) h1)
  clear h1
  go_wp2_with fail
  refine (bk_Waste _ 9000000 ⟨5000000, 0, 2000000, 10⟩ _ b3.out o2.out (by omega)).mono ?_
  rintro e w4 h1
  have h1 : KPost w3 w.heap.size (.int .u64 5000000) ⟨0, 5000000, 2000000, 10⟩ e w4 := h1
  obtain rfl := h1.e
  have b4 := Lib.hid h1.blk
  have g4 := Lib.hid (kt_gr g3.out (Nat.le_refl _) h1)
  clear h1
  go_wp2_with fail
  refine (bk_To _ 5 ⟨0, 5000000, 2000000, 10⟩ _ b4.out o3.out (by omega)).mono ?_
  rintro e w5 h1
  have h1 : KPost w4 w.heap.size (.tuple #[]) ⟨0, 5000000, 2000000, 10⟩ e w5 := h1
  obtain rfl := h1.e
  have b5 := Lib.hid h1.blk
  have g5 := Lib.hid (kt_gr g4.out (Nat.le_refl _) h1)
  clear h1
  go_wp2_with (first
    | (go_at_call 14; (refine (bk_Tokens _ ⟨0, 5000000, 2000000, 10⟩ _ b5.out).mono ?_); rintro e w' ⟨rfl, rfl⟩)
    | (go_at_call 15; (refine (bk_Wasted _ ⟨0, 5000000, 2000000, 10⟩ _ b5.out).mono ?_); rintro e w' ⟨rfl, rfl⟩))
  go_ret
  exact ⟨rfl, g5.out⟩
end Go.Proofs.Ytbgmkebjehapgaa
