/- FixWhole: the walk. -/
import Derived.Test.YtjaiffmdoodfaaaLaw01a
set_option linter.unusedVariables false
namespace Go.Proofs.Ytjaiffmdoodfaaa
open Go.RowKit Pl

theorem share_self (a b : Nat) (hb : b ≠ 0) (ha : a ≤ 18446744073709551615) : shareS a b b = a := by
  unfold shareS
  rw [if_neg hb, Nat.mul_div_cancel _ (by omega)]
  omega
theorem over_self (a b : Nat) (hb : b ≠ 0) (ha : a ≤ 18446744073709551615) : overS b a b = a := by
  unfold overS
  rw [if_neg hb, Nat.mul_add_div (by omega), Nat.div_eq_of_lt (by omega)]
  omega
theorem share_comm (a b c : Nat) : shareS b a c = shareS a b c := by unfold shareS; rw [Nat.mul_comm]
theorem over_comm (a b c : Nat) : overS b a c = overS a b c := by unfold overS; rw [Nat.mul_comm]
theorem addS_comm (a b : Nat) : addS b a = addS a b := by unfold addS; rw [Nat.add_comm]
theorem addS_sub (a b : Nat) : subS (addS a b) b ≤ a := by unfold subS addS; omega

theorem ret_true {b : Bool} (h : b = true) : Ending.returned (.bool b) = .returned (.bool true) := by rw [h]

set_option maxHeartbeats 2000000 in
theorem FixWhole_walk (a b c : Nat) (w : World) (ha : a ≤ 18446744073709551615) (hb : b ≤ 18446744073709551615) (hc : c ≤ 18446744073709551615) :
    Calls Try.prog 6 #[.int .u64 (a : Int), .int .u64 (b : Int), .int .u64 (c : Int)] w fun e w' => e = .returned (.bool true) ∧ Below w.heap.size w w' := by
  have HSab := Lib.hid (fun w => fix_Share_n a b c w ha hb hc)
  have HSba := Lib.hid (fun w => fix_Share_n b a c w hb ha hc)
  have HOab := Lib.hid (fun w => fix_Over_pl a b c w ha hb hc)
  have HOba := Lib.hid (fun w => fix_Over_pl b a c w hb ha hc)
  rw [share_comm a b c] at HSba
  rw [over_comm a b c] at HOba
  have bs := shareS_le a b c
  have bo := overS_le a b c
  have ba := addS_le a b
  have HC := Lib.hid (addS_comm a b)
  have hd : decide (subS (addS a b) b ≤ a) = true := decide_eq_true (addS_sub a b)
  have hself : ∀ n : Nat, ((n : Int) == (n : Int)) = true := fun n => by simp
  have hb' : ((b : Int) == 0) = true ∨ (((b : Int) == 0) = false ∧ (∀ w, Calls Try.prog 15 #[.int .u64 (a : Int), .int .u64 (b : Int), .int .u64 (b : Int)] w fun e w' => e = .returned (.int .u64 (a : Int)) ∧ Drawn w w') ∧
      ∀ w, Calls Try.prog 17 #[.int .u64 (b : Int), .int .u64 (a : Int), .int .u64 (b : Int)] w fun e w' => e = .returned (.int .u64 (a : Int)) ∧ Below w.heap.size w w') := by
    by_cases h : b = 0
    · exact Or.inl (by simp [h])
    · refine Or.inr ⟨beq_eq_false_iff_ne.2 (by omega), fun w => ?_, fun w => ?_⟩
      · have := fix_Share_n a b b w ha hb hb
        rwa [share_self a b h ha] at this
      · have := fix_Over_pl b a b w hb ha hb
        rwa [over_self a b h ha] at this
  rcases hb' with hz | ⟨hz, hs1, ho1⟩
  · go_enter Try.func6, Try.ntmps6
    go_wp2_with fail
    refine (alive01 _).mono ?_
    rintro e w1 ⟨rfl, hb1⟩
    go_wp2_with fail
    refine (HSab.out _).mono ?_
    rintro e w' ⟨rfl, n1, rfl⟩
    go_wp2_with fail
    refine (HSba.out _).mono ?_
    rintro e w' ⟨rfl, n2, rfl⟩
    go_wp2_with fail
    refine (HOab.out _).mono ?_
    rintro e w2 ⟨rfl, hb2⟩
    go_wp2_with fail
    refine (HOba.out _).mono ?_
    rintro e w3 ⟨rfl, hb3⟩
    go_wp2_with fail
    refine (fix_Add2_n _ _ _ _ _ rfl ha hb).mono ?_
    rintro e w' ⟨rfl, rfl⟩
    go_wp2_with fail
    refine (fix_Add2_n _ _ _ _ _ (by simp) hb ha).mono ?_
    rintro e w' ⟨rfl, rfl⟩
    rw [HC.out]
    go_wp2_with fail
    refine (fix_Add2_n _ _ _ _ _ (by simp) ha hb).mono ?_
    rintro e w' ⟨rfl, rfl⟩
    go_wp2_with fail
    refine (fix_Sub1_n _ _ _ _ _ (by simp) ba hb).mono ?_
    rintro e w' ⟨rfl, rfl⟩
    go_wp2_with fail
    go_ret
    have z1 : w.heap.size ≤ w1.heap.size := hb1.size
    have z2 : w1.heap.size ≤ w2.heap.size := hb2.size
    have z3 : w2.heap.size ≤ w3.heap.size := hb3.size
    refine ⟨rfl, ?_⟩
    have c3 : Below w.heap.size w w3 := ((below_drewN hb1 (n1 + n2)).trans (hb2.mono z1)).trans (hb3.mono (Nat.le_trans z1 z2))
    exact (((c3.alloc (by omega) _).alloc (by simp; omega) _).alloc (by simp; omega) _).alloc (by simp; omega) _
  · have HS1 := Lib.hid hs1
    have HO1 := Lib.hid ho1
    clear hs1 ho1
    go_enter Try.func6, Try.ntmps6
    go_wp2_with fail
    refine (HS1.out _).mono ?_
    rintro e w' ⟨rfl, m1, rfl⟩
    go_wp2_with fail
    refine (HO1.out _).mono ?_
    rintro e w0 ⟨rfl, hb0⟩
    go_wp2_with fail
    refine (alive01 _).mono ?_
    rintro e w1 ⟨rfl, hb1⟩
    go_wp2_with fail
    refine (HSab.out _).mono ?_
    rintro e w' ⟨rfl, n1, rfl⟩
    go_wp2_with fail
    refine (HSba.out _).mono ?_
    rintro e w' ⟨rfl, n2, rfl⟩
    go_wp2_with fail
    refine (HOab.out _).mono ?_
    rintro e w2 ⟨rfl, hb2⟩
    go_wp2_with fail
    refine (HOba.out _).mono ?_
    rintro e w3 ⟨rfl, hb3⟩
    go_wp2_with fail
    refine (fix_Add2_n _ _ _ _ _ rfl ha hb).mono ?_
    rintro e w' ⟨rfl, rfl⟩
    go_wp2_with fail
    refine (fix_Add2_n _ _ _ _ _ (by simp) hb ha).mono ?_
    rintro e w' ⟨rfl, rfl⟩
    rw [HC.out]
    go_wp2_with fail
    refine (fix_Add2_n _ _ _ _ _ (by simp) ha hb).mono ?_
    rintro e w' ⟨rfl, rfl⟩
    go_wp2_with fail
    refine (fix_Sub1_n _ _ _ _ _ (by simp) ba hb).mono ?_
    rintro e w' ⟨rfl, rfl⟩
    go_wp2_with fail
    go_ret
    have z1 : w.heap.size ≤ w1.heap.size := Nat.le_trans hb0.size hb1.size
    have z2 : w1.heap.size ≤ w2.heap.size := hb2.size
    have z3 : w2.heap.size ≤ w3.heap.size := hb3.size
    refine ⟨rfl, ?_⟩
    have c3 : Below w.heap.size w w3 := ((below_drewN (((below_drewN (Below.refl _ _) m1).trans hb0).trans (hb1.mono hb0.size)) (n1 + n2)).trans (hb2.mono z1)).trans (hb3.mono (Nat.le_trans z1 z2))
    exact (((c3.alloc (by omega) _).alloc (by simp; omega) _).alloc (by simp; omega) _).alloc (by simp; omega) _
end Go.Proofs.Ytjaiffmdoodfaaa
