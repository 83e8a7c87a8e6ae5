/- Where a number's block is, and near, over this translation. -/
import Derived.Test.YtfpopbhbhdhdnaaSr
set_option linter.unusedVariables false
namespace Go.Proofs.Ytfpopbhbhdhdnaa
open Go.RowKit

/-- What a search answers: a place, and whether it is found there. -/
def FoundAt (i : Nat) (w : World) (e : Ending) (w' : World) : Prop := ∃ f, e = .returned (.tuple #[.int .i64 (i : Int), .bool f]) ∧ Below w.heap.size w w'

theorem bs38_none (p : Option Addr) (cap n : Nat) (w : World) :
    Calls Try.prog 79 #[.slice p 0 cap, .int .u64 (n : Int), .func (.func 80) #[] #[]] w (FoundAt 0 w) := by
  go_enter Try.func79, Try.ntmps79
  go_wp2
  go_loop [9, 10] (fun i j => i = .int .i64 0 ∧ j = .int .i64 0) (fun _ _ => 0)
  case atStart => exact ⟨rfl, rfl⟩
  case round =>
    obtain ⟨rfl, rfl⟩ := hrel
    go_wp2
    go_ret2
    exact ⟨false, rfl, Below.refl _ _⟩
set_option maxHeartbeats 1000000 in
theorem bs38_one (b off cap : Nat) (p : Option Addr) (c : Nat) (L : List Rn) (n : Nat) (w : World) (hb : b < w.heap.size) (hc : w.cell? ⟨b, off, none⟩ = some (.slice p L.length c)) (hl : Its w p L) (hp : 0 < L.length) (hm : L.length ≤ 1000) :
    Calls Try.prog 79 #[.slice (some ⟨b, off, none⟩) 1 cap, .int .u64 (n : Int), .func (.func 80) #[] #[]] w (FoundAt (blockN L n) w) := by
  have HB := Lib.hid hb
  have HC := Lib.hid hc
  have HL := Lib.hid hl
  have eg : ∀ args w, (callFunc 80 args).run Try.prog w = .ok (.enter 80 args) w := enters_of Try.func80 (by kernel_rfl) rfl
  have hk := fun W (h : Below w.heap.size w W) => close_any L p n c W (hl.keep h) hp hm
  have HK := Lib.hid hk
  clear hk hb hl hc
  unfold blockN
  have hcn := cmpN_neg (lastB L) n
  have hci := cmpN_in (lastB L) n
  by_cases hlt : lastB L < n
  all_goals
    have hneg : decide (cmpN (lastB L) n < 0) = decide (lastB L < n) := by simp [hcn]
    simp only [hp, hlt, and_true, and_false, ite_true, ite_false, decide_true, decide_false] at hneg ⊢
    clear hcn
    generalize hk' : lastB L = y at *
    have HY := Lib.hid hk'
    clear hk' hlt
    generalize hx : cmpN y n = x at *
    have HX := Lib.hid hx
    clear hx
    go_enter Try.func79, Try.ntmps79
    go_wp2
  · go_loopw [9, 10] (fun i j wr => (i = .int .i64 0 ∧ j = .int .i64 1 ∧ w = wr) ∨ (i = .int .i64 1 ∧ j = .int .i64 1 ∧ Below w.heap.size w wr)) (fun i j _ => (intOf j).toNat - (intOf i).toNat)
    case atStart => exact .inl ⟨rfl, rfl, rfl⟩
    case round =>
      rcases hrel with ⟨rfl, rfl, rfl⟩ | ⟨rfl, rfl, hB⟩
      · have hc := HC.out
        have hq := HK.out w (Below.refl _ _)
        have HQ := Lib.hid hq
        clear hq
        go_wp2_with fail
        refine (HQ.out).mono ?_
        rintro e w' ⟨rfl, hw⟩
        have HW := Lib.hid hw
        clear hw hc
        go_wp2
        go_roundw
        case rel => exact .inr ⟨rfl, rfl, HW.out⟩
        case measure => simp [intOf]
      · have HW := Lib.hid hB
        clear hB
        go_wp2
        go_ret2
        exact ⟨_, rfl, HW.out⟩
  · go_loopw [9, 10] (fun i j wr => (i = .int .i64 0 ∧ j = .int .i64 1 ∧ w = wr) ∨ (i = .int .i64 0 ∧ j = .int .i64 0 ∧ Below w.heap.size w wr)) (fun i j _ => (intOf j).toNat - (intOf i).toNat)
    case atStart => exact .inl ⟨rfl, rfl, rfl⟩
    case round =>
      rcases hrel with ⟨rfl, rfl, rfl⟩ | ⟨rfl, rfl, hB⟩
      · have hc := HC.out
        have hq := HK.out w (Below.refl _ _)
        have HQ := Lib.hid hq
        clear hq
        go_wp2_with fail
        refine (HQ.out).mono ?_
        rintro e w' ⟨rfl, hw⟩
        have HW := Lib.hid hw
        clear hw hc
        go_wp2
        go_roundw
        case rel => exact .inr ⟨rfl, rfl, HW.out⟩
        case measure => simp [intOf]
      · have HW := Lib.hid hB
        have hc := (hB.cell (p := ⟨b, off, none⟩) HB.out).trans HC.out
        have hq := HK.out wr hB
        have HQ := Lib.hid hq
        clear hB hq
        go_wp2_with fail
        refine (HQ.out).mono ?_
        rintro e w' ⟨rfl, hw⟩
        have HV := Lib.hid (bel_to HW.out hw HW.out.size)
        clear hw hc
        go_wp2
        go_ret2
        exact ⟨_, rfl, HV.out⟩
end Go.Proofs.Ytfpopbhbhdhdnaa
