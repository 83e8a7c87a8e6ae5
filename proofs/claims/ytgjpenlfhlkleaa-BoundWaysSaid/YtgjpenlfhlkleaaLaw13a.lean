/- The live question of layer 13 is answered as it is fixed; what '==' says of bounds that read alike. -/
import Derived.Test.YtgjpenlfhlkleaaBb
import Derived.Laws.StructEq
set_option linter.unusedVariables false
namespace Go.Proofs.Ytgjpenlfhlkleaa
open Go.RowKit Pl

theorem eq_ref13 (b : BS) (w : World) : (Op.equalIn 10000 28 (.agg #[.int .u64 (b.hi : Int), .int .u64 (b.lo : Int), .int .u64 (b.bw : Int)]) (.agg #[.int .u64 (b.hi : Int), .int .u64 (b.lo : Int), .int .u64 (b.bw : Int)])).run Try.prog w = .ok true w := by
  have u := Try.underlying22
  have ag := Try.isAgg22
  have z := Try.sizeOf22
  have hS : Try.prog.underlying 28 = some (.struct (Try.prog.fieldsOf 28)) := by kernel_rfl
  have hp : Try.prog.stoodInHeld 28 = false := by kernel_rfl
  rw [show (10000 : Nat) = 9999 + 1 from rfl, run_equalIn_struct w 9999 28 _ _ hS hp]
  simp only [Program.fieldsOf, Try.underlying28]
  go_simp
theorem eq_alive (w : World) : (Op.equalIn 10000 24 (.agg #[.int .u64 75, .int .u64 70, .int .u64 7]) (.agg #[.int .u64 75, .int .u64 70, .int .u64 7])).run Try.prog w = .ok true w := by kernel_rfl

set_option maxHeartbeats 1000000 in
theorem alive13 (w : World) : Calls Try.prog 5 #[] w fun e w' => e = .returned (.bool true) ∧ Below w.heap.size w w' := by
  have HN : Hid (∀ w, Calls Try.prog 19 #[] w fun e w' => e = .returned (.agg #[.int .u64 18446744073709551615, .int .u64 18446744073709551615, .int .u64 18446744073709551615]) ∧ Below w.heap.size w w') := Lib.hid (fun w => bd_None w)
  have HL : Hid (∀ w, Calls Try.prog 7 #[.agg #[.int .u64 18446744073709551615, .int .u64 18446744073709551615, .int .u64 18446744073709551615], .int .u64 50, .int .u64 7, .int .u64 100] w fun e w' => e = .returned (.agg #[.int .u64 18446744073709551615, .int .u64 70, .int .u64 7]) ∧ Below w.heap.size w w') := Lib.hid (fun w => by
    have h := bd_Lose BS.none 50 7 100 w BS.none_ok (by omega) (by omega) (by omega)
    rw [show BS.none.lose 50 7 100 = ⟨18446744073709551615, 70, 7⟩ by decide] at h; exact h)
  have HP : Hid (∀ w, Calls Try.prog 9 #[.agg #[.int .u64 18446744073709551615, .int .u64 70, .int .u64 7], .int .u64 10, .int .u64 100] w fun e w' => e = .returned (.agg #[.int .u64 70, .int .u64 70, .int .u64 7]) ∧ Below w.heap.size w w') := Lib.hid (fun w => by
    have h := bd_Pull ⟨18446744073709551615, 70, 7⟩ 10 100 w (by omega) (by omega)
    rw [show BS.pull ⟨18446744073709551615, 70, 7⟩ 10 100 = ⟨70, 70, 7⟩ by decide] at h; exact h)
  have HU : Hid (∀ w, Calls Try.prog 11 #[.agg #[.int .u64 70, .int .u64 70, .int .u64 7], .int .u64 5] w fun e w' => e = .returned (.agg #[.int .u64 75, .int .u64 70, .int .u64 7]) ∧ Below w.heap.size w w') := Lib.hid (fun w => by
    have h := bd_Push ⟨70, 70, 7⟩ 5 w ⟨by decide, by decide, by decide⟩ (by omega)
    rw [show BS.push ⟨70, 70, 7⟩ 5 = ⟨75, 70, 7⟩ by decide] at h; exact h)
  have HC : Hid (∀ (v : Option Addr) w, NumsR w v [90, 72] → Calls Try.prog 14 #[.agg #[.int .u64 75, .int .u64 70, .int .u64 7], .slice v 2 2] w fun e w' => e = .returned (.int .u64 70) ∧ Below w.heap.size w w') := Lib.hid (fun v w hv => by
    have h := bd_Cap ⟨75, 70, 7⟩ v 2 [90, 72] w (by decide) hv
    rw [show BS.cap ⟨75, 70, 7⟩ [90, 72] = 70 by decide] at h; exact h)
  have HR : Hid (∀ w, Calls Try.prog 16 #[.agg #[.int .u64 75, .int .u64 70, .int .u64 7]] w fun e w' => e = .returned (.int .u64 63) ∧ Below w.heap.size w w') := Lib.hid (fun w => by
    have h := bd_Room ⟨75, 70, 7⟩ w ⟨by decide, by decide, by decide⟩
    rw [show BS.room ⟨75, 70, 7⟩ = 63 by decide] at h; exact h)
  have HI : Hid (∀ w, Calls Try.prog 18 #[.agg #[.int .u64 75, .int .u64 70, .int .u64 7], .int .u64 9] w fun e w' => e = .returned (.int .u64 7) ∧ Below w.heap.size w w') := Lib.hid (fun w => by
    have h := bd_Limit ⟨75, 70, 7⟩ 9 w
    rw [show BS.limit ⟨75, 70, 7⟩ 9 = 7 by decide] at h; exact h)
  have HS : Hid (∀ w, Calls Try.prog 13 #[.agg #[.int .u64 75, .int .u64 70, .int .u64 7]] w fun e w' => e = .returned (.agg #[.int .u64 75, .int .u64 18446744073709551615, .int .u64 18446744073709551615]) ∧ Below w.heap.size w w') := Lib.hid (fun w => bd_Short ⟨75, 70, 7⟩ w)
  have HJ : Hid (∀ w, Calls Try.prog 18 #[.agg #[.int .u64 75, .int .u64 18446744073709551615, .int .u64 18446744073709551615], .int .u64 9] w fun e w' => e = .returned (.int .u64 9) ∧ Below w.heap.size w w') := Lib.hid (fun w => by
    have h := bd_Limit ⟨75, 18446744073709551615, 18446744073709551615⟩ 9 w
    rw [show BS.limit ⟨75, 18446744073709551615, 18446744073709551615⟩ 9 = 9 by decide] at h; exact h)
  have heq := eq_alive
  have G0 := Lib.hid (Below.refl w.heap.size w)
  go_enter Try.func5, Try.ntmps5
  go_wp2_with fail
  refine (HN.out _).mono ?_
  rintro e w1 ⟨rfl, h1⟩
  have G1 := Lib.hid (bel_to G0.out h1 G0.out.size)
  clear h1 G0 HN
  go_wp2_with fail
  refine (HL.out _).mono ?_
  rintro e w2 ⟨rfl, h1⟩
  have G2 := Lib.hid (bel_to G1.out h1 G1.out.size)
  clear h1 G1 HL
  go_wp2_with fail
  refine (HP.out _).mono ?_
  rintro e w3 ⟨rfl, h1⟩
  have G3 := Lib.hid (bel_to G2.out h1 G2.out.size)
  clear h1 G2 HP
  go_wp2_with fail
  refine (HU.out _).mono ?_
  rintro e w4 ⟨rfl, h1⟩
  have G4 := Lib.hid (bel_to G3.out h1 G3.out.size)
  clear h1 G3 HU
  have HV : Hid (NumsR ((w4.alloc (.cells #[.int .u64 75, .int .u64 70, .int .u64 7] 24)).alloc (.cells #[.int .u64 90, .int .u64 72] 22)) (some ⟨w4.heap.size + 1, 0, none⟩) [90, 72]) := Lib.hid (fun _ => ⟨w4.heap.size + 1, 0, rfl, by simp, fun i hi => by
    match i, hi with
    | 0, _ => exact new_cell (by simp) rfl
    | 1, _ => exact new_cell (by simp) rfl⟩)
  go_wp2_with fail
  refine (HC.out _ _ HV.out).mono ?_
  rintro e w5 ⟨rfl, h1⟩
  have D := Lib.hid (((Blk.new w4 24 #[.int .u64 75, .int .u64 70, .int .u64 7]).alloc (.cells #[.int .u64 90, .int .u64 72] 22)).keep h1)
  have G5 := Lib.hid (bel_to ((G4.out.alloc G4.out.size (.cells #[.int .u64 75, .int .u64 70, .int .u64 7] 24)).alloc (by have := G4.out.size; simp; omega) (.cells #[.int .u64 90, .int .u64 72] 22)) h1 (by have := G4.out.size; simp; omega))
  clear h1 HV G4 HC
  have c0 := D.out.cell (i := 0) (v := .int .u64 75) rfl
  have c1 := D.out.cell (i := 1) (v := .int .u64 70) rfl
  have c2 := D.out.cell (i := 2) (v := .int .u64 7) rfl
  go_wp2_with fail
  refine (HR.out _).mono ?_
  rintro e w6 ⟨rfl, h1⟩
  have D1 := Lib.hid (D.out.keep h1)
  have G6 := Lib.hid (bel_to G5.out h1 G5.out.size)
  clear h1 G5 D HR c0 c1 c2
  have c0 := D1.out.cell (i := 0) (v := .int .u64 75) rfl
  have c1 := D1.out.cell (i := 1) (v := .int .u64 70) rfl
  have c2 := D1.out.cell (i := 2) (v := .int .u64 7) rfl
  go_wp2_with fail
  refine (HI.out _).mono ?_
  rintro e w7 ⟨rfl, h1⟩
  have D2 := Lib.hid (D1.out.keep h1)
  have G7 := Lib.hid (bel_to G6.out h1 G6.out.size)
  clear h1 G6 D1 HI c0 c1 c2
  have c0 := D2.out.cell (i := 0) (v := .int .u64 75) rfl
  have c1 := D2.out.cell (i := 1) (v := .int .u64 70) rfl
  have c2 := D2.out.cell (i := 2) (v := .int .u64 7) rfl
  go_wp2_with fail
  refine (HS.out _).mono ?_
  rintro e w8 ⟨rfl, h1⟩
  have G8 := Lib.hid (bel_to G7.out h1 G7.out.size)
  clear h1 G7 D2 HS c0 c1 c2
  go_wp2_with fail
  refine (HJ.out _).mono ?_
  rintro e w9 ⟨rfl, h1⟩
  have G9 := Lib.hid (bel_to G8.out h1 G8.out.size)
  clear h1 G8 HJ
  go_wp2_with fail
  go_ret
  exact ⟨rfl, G9.out⟩
end Go.Proofs.Ytgjpenlfhlkleaa
