/- The live question of layer 14 is answered as it is fixed. -/
import Derived.Test.YtkgdfbiokgggmaaMod
import Derived.Test.YtkgdfbiokgggmaaMob
import Derived.Laws.StructEq
set_option linter.unusedVariables false
namespace Go.Proofs.Ytkgdfbiokgggmaa
open Go.RowKit Pl

set_option maxRecDepth 100000 in
set_option maxHeartbeats 4000000 in
theorem alive14 (w : World) : Calls Try.prog 6 #[] w fun e w' => e = .returned (.bool true) ∧ Below w.heap.size w w' := by
  have N0 : Hid (∀ w, Calls Try.prog 7 #[.int .i64 0, .agg #[.bool true, .bool false, .bool false, .bool false, .int .u64 0, .int .u64 0, .int .u64 0, .int .u64 0, .int .u64 0, .int .u64 0]] w fun e w' => e = .returned (.int .i64 1) ∧ Below w.heap.size w w') := Lib.hid (fun w => by
    have h := mo_Next 0 ⟨true, false, false, false, 0, 0, 0, 0, 0, 0⟩ ⟨by decide, by decide, by decide, by decide, by decide, by decide⟩ w
    rw [show nextS 0 ⟨true, false, false, false, 0, 0, 0, 0, 0, 0⟩ = 1 by decide] at h; exact h)
  have N1 : Hid (∀ w, Calls Try.prog 7 #[.int .i64 2, .agg #[.bool false, .bool false, .bool false, .bool false, .int .u64 5, .int .u64 5, .int .u64 4, .int .u64 0, .int .u64 3, .int .u64 3]] w fun e w' => e = .returned (.int .i64 4) ∧ Below w.heap.size w w') := Lib.hid (fun w => by
    have h := mo_Next 2 ⟨false, false, false, false, 5, 5, 4, 0, 3, 3⟩ ⟨by decide, by decide, by decide, by decide, by decide, by decide⟩ w
    rw [show nextS 2 ⟨false, false, false, false, 5, 5, 4, 0, 3, 3⟩ = 4 by decide] at h; exact h)
  have N2 : Hid (∀ w, Calls Try.prog 7 #[.int .i64 5, .agg #[.bool false, .bool false, .bool false, .bool false, .int .u64 11, .int .u64 9, .int .u64 0, .int .u64 1, .int .u64 0, .int .u64 0]] w fun e w' => e = .returned (.int .i64 2) ∧ Below w.heap.size w w') := Lib.hid (fun w => by
    have h := mo_Next 5 ⟨false, false, false, false, 11, 9, 0, 1, 0, 0⟩ ⟨by decide, by decide, by decide, by decide, by decide, by decide⟩ w
    rw [show nextS 5 ⟨false, false, false, false, 11, 9, 0, 1, 0, 0⟩ = 2 by decide] at h; exact h)
  have N3 : Hid (∀ w, Calls Try.prog 7 #[.int .i64 3, .agg #[.bool false, .bool false, .bool false, .bool true, .int .u64 0, .int .u64 0, .int .u64 0, .int .u64 0, .int .u64 0, .int .u64 0]] w fun e w' => e = .returned (.int .i64 6) ∧ Below w.heap.size w w') := Lib.hid (fun w => by
    have h := mo_Next 3 ⟨false, false, false, true, 0, 0, 0, 0, 0, 0⟩ ⟨by decide, by decide, by decide, by decide, by decide, by decide⟩ w
    rw [show nextS 3 ⟨false, false, false, true, 0, 0, 0, 0, 0, 0⟩ = 6 by decide] at h; exact h)
  have HW : Hid (∀ w, Calls Try.prog 9 #[.int .i64 3, .int .u64 9, .int .u64 0] w fun e w' => e = .returned (.int .u64 2125000) ∧ w' = w) := Lib.hid (fun w => by
    have h := mo_Wait 3 9 0 w (by decide)
    rw [show waitS 3 9 0 = 2125000 by decide] at h; exact h)
  have F1 : Hid (∀ w, Calls Try.prog 12 #[.int .i64 5, .int .i64 2] w fun e w' => e = .returned (.bool true) ∧ Below w.heap.size w w') := Lib.hid (fun w => by
    have h := mo_Follows 5 2 w (by decide) (by decide)
    rw [show followsS 5 2 = true by decide] at h; exact h)
  have F2 : Hid (∀ w, Calls Try.prog 12 #[.int .i64 5, .int .i64 3] w fun e w' => e = .returned (.bool false) ∧ Below w.heap.size w w') := Lib.hid (fun w => by
    have h := mo_Follows 5 3 w (by decide) (by decide)
    rw [show followsS 5 3 = false by decide] at h; exact h)
  have G0 := Lib.hid (Below.refl w.heap.size w)
  go_enter Try.func6, Try.ntmps6
  go_wp2_with fail
  refine (N0.out _).mono ?_
  rintro e w1 ⟨rfl, h1⟩
  have G1 := Lib.hid (bel_to G0.out h1 G0.out.size)
  clear h1 G0 N0
  go_wp2_with fail
  refine (N1.out _).mono ?_
  rintro e w2 ⟨rfl, h1⟩
  have G2 := Lib.hid (bel_to G1.out h1 G1.out.size)
  clear h1 G1 N1
  go_wp2_with fail
  refine (N2.out _).mono ?_
  rintro e w3 ⟨rfl, h1⟩
  have G3 := Lib.hid (bel_to G2.out h1 G2.out.size)
  clear h1 G2 N2
  go_wp2_with fail
  refine (N3.out _).mono ?_
  rintro e w4 ⟨rfl, h1⟩
  have G4 := Lib.hid (bel_to G3.out h1 G3.out.size)
  clear h1 G3 N3
  go_wp2_with fail
  refine (HW.out _).mono ?_
  rintro e w' ⟨rfl, rfl⟩
  go_wp2_with fail
  refine (F1.out _).mono ?_
  rintro e w5 ⟨rfl, h1⟩
  have G5 := Lib.hid (bel_to G4.out h1 G4.out.size)
  clear h1 G4 F1
  go_wp2_with fail
  refine (F2.out _).mono ?_
  rintro e w6 ⟨rfl, h1⟩
  have G6 := Lib.hid (bel_to G5.out h1 G5.out.size)
  clear h1 G5 F2
  go_wp2_with fail
  go_ret
  exact ⟨rfl, G6.out⟩
end Go.Proofs.Ytkgdfbiokgggmaa
