/- FixRises: the walk. -/
import Derived.Test.YtjaiffmdoodfaaaLaw01c
set_option linter.unusedVariables false
namespace Go.Proofs.Ytjaiffmdoodfaaa
open Go.RowKit Pl

theorem addS_mono {a m : Nat} (b : Nat) (h : a ≤ m) : addS a b ≤ addS m b := by unfold addS; omega
theorem mulS_mono {a m : Nat} (b : Nat) (h : a ≤ m) : mulS a b ≤ mulS m b := by
  have := Nat.mul_le_mul_right b h
  unfold mulS; omega
theorem shareS_mono {a m : Nat} (b c : Nat) (h : a ≤ m) : shareS a b c ≤ shareS m b c := by
  have := Nat.div_le_div_right (c := c) (Nat.mul_le_mul_right b h)
  unfold shareS
  split <;> omega
theorem overS_mono {a m : Nat} (b c : Nat) (h : a ≤ m) : overS a b c ≤ overS m b c := by
  have := Nat.div_le_div_right (c := c) (Nat.add_le_add_right (Nat.mul_le_mul_right b h) (c - 1))
  unfold overS
  split <;> omega
theorem shareS_anti {a m : Nat} (b c : Nat) (h0 : 0 < a) (h : a ≤ m) : shareS b c m ≤ shareS b c a := by
  have := Nat.div_le_div_left (a := b * c) h h0
  unfold shareS
  rw [if_neg (by omega), if_neg (by omega)]
  omega
theorem up_anti (p a m : Nat) (h0 : 0 < a) (h : a ≤ m) : (p + (m - 1)) / m ≤ (p + (a - 1)) / a := by
  rw [← Nat.lt_succ_iff, Nat.succ_eq_add_one, Nat.div_lt_iff_lt_mul (by omega)]
  have e := Nat.div_add_mod (p + (a - 1)) a
  have l := Nat.mod_lt (p + (a - 1)) h0
  have k : a * ((p + (a - 1)) / a) ≤ m * ((p + (a - 1)) / a) := Nat.mul_le_mul_right _ h
  rw [Nat.add_mul, Nat.mul_comm]
  omega
theorem overS_anti {a m : Nat} (b c : Nat) (h0 : 0 < a) (h : a ≤ m) : overS b c m ≤ overS b c a := by
  have := up_anti (b * c) a m h0 h
  unfold overS
  rw [if_neg (by omega), if_neg (by omega)]
  omega

set_option maxHeartbeats 2000000 in
set_option maxRecDepth 100000 in
theorem FixRises_walk (a b c : Nat) (w : World) (ha : a ≤ 18446744073709551615) (hb : b ≤ 18446744073709551615) (hc : c ≤ 18446744073709551615) :
    Calls Try.prog 7 #[.int .u64 (a : Int), .int .u64 (b : Int), .int .u64 (c : Int)] w fun e w' => e = .returned (.bool true) ∧ Below w.heap.size w w' := by
  obtain ⟨m, hm⟩ : ∃ m, addS a 1 = m := ⟨_, rfl⟩
  have HMM := Lib.hid (show addS (Int.toNat a) (Int.toNat 1) = m from hm)
  have am : a ≤ m := by rw [← hm]; unfold addS; omega
  have mb : m ≤ 18446744073709551615 := by rw [← hm]; exact addS_le a 1
  clear hm
  have t1 : decide (addS a b ≤ addS m b) = true := decide_eq_true (addS_mono b am)
  have t2 : decide (subS a b ≤ subS m b) = true := decide_eq_true (by unfold subS; omega)
  have t3 : decide (subS b m ≤ subS b a) = true := decide_eq_true (by unfold subS; omega)
  have t4 : decide (mulS a b ≤ mulS m b) = true := decide_eq_true (mulS_mono b am)
  have t5 : decide (shareS a b c ≤ shareS m b c) = true := decide_eq_true (shareS_mono b c am)
  have t6 : decide (overS a b c ≤ overS m b c) = true := decide_eq_true (overS_mono b c am)
  have hz : ((a : Int) == 0) = true ∨ (((a : Int) == 0) = false ∧ decide (shareS b c m ≤ shareS b c a) = true ∧ decide (overS b c m ≤ overS b c a) = true) := by
    by_cases h : a = 0
    · exact Or.inl (by simp [h])
    · exact Or.inr ⟨beq_eq_false_iff_ne.2 (by omega), decide_eq_true (shareS_anti b c (by omega) am), decide_eq_true (overS_anti b c (by omega) am)⟩
  have HAM := Lib.hid am
  clear am
  rcases hz with hz | ⟨hz, t7, t8⟩
  · go_enter Try.func7, Try.ntmps7
    go_wp2_with fail
    refine (fix_Add2 _ _ _ _ _ rfl (by omega) (by omega) (by omega) (by omega)).mono ?_
    rintro e w0 ⟨rfl, hw0⟩
    rw [HMM.out]
    have h0 : Below w.heap.size w w0 := hw0 ▸ (Below.refl _ _).alloc (Nat.le_refl _) _
    clear hw0
    go_wp2_with fail
    refine (add2_b _ _ _ _ _ rfl mb hb).mono ?_
    rintro e w1 ⟨rfl, h1⟩
    go_wp2_with fail
    refine (add2_b _ _ _ _ _ rfl ha hb).mono ?_
    rintro e w2 ⟨rfl, h2⟩
    go_wp2_with fail
    refine (sub1_b _ _ _ _ _ rfl mb hb).mono ?_
    rintro e w3 ⟨rfl, h3⟩
    go_wp2_with fail
    refine (sub1_b _ _ _ _ _ rfl ha hb).mono ?_
    rintro e w4 ⟨rfl, h4⟩
    go_wp2_with fail
    refine (sub1_b _ _ _ _ _ rfl hb mb).mono ?_
    rintro e w5 ⟨rfl, h5⟩
    go_wp2_with fail
    refine (sub1_b _ _ _ _ _ rfl hb ha).mono ?_
    rintro e w6 ⟨rfl, h6⟩
    go_wp2_with fail
    refine (fix_Mul_n _ _ _ mb hb).mono ?_
    rintro e w' ⟨rfl, rfl⟩
    go_wp2_with fail
    refine (fix_Mul_n _ _ _ ha hb).mono ?_
    rintro e w' ⟨rfl, rfl⟩
    go_wp2_with fail
    refine (share_b _ _ _ _ mb hb hc).mono ?_
    rintro e w7 ⟨rfl, h7⟩
    go_wp2_with fail
    refine (share_b _ _ _ _ ha hb hc).mono ?_
    rintro e w8 ⟨rfl, h8⟩
    go_wp2_with fail
    refine (fix_Over_pl _ _ _ _ mb hb hc).mono ?_
    rintro e w9 ⟨rfl, h9⟩
    go_wp2_with fail
    refine (fix_Over_pl _ _ _ _ ha hb hc).mono ?_
    rintro e w10 ⟨rfl, h10⟩
    go_wp2_with fail
    refine (alive01 _).mono ?_
    rintro e w11 ⟨rfl, h11⟩
    go_wp2_with fail
    go_ret
    exact ⟨rfl, (bnext (bnext (bnext (bnext (bnext (bnext (bnext (bnext (bnext (bnext (bnext h0 h1) h2) h3) h4) h5) h6) h7) h8) h9) h10) h11)⟩
  · go_enter Try.func7, Try.ntmps7
    go_wp2_with fail
    refine (fix_Add2 _ _ _ _ _ rfl (by omega) (by omega) (by omega) (by omega)).mono ?_
    rintro e w0 ⟨rfl, hw0⟩
    rw [HMM.out]
    have h0 : Below w.heap.size w w0 := hw0 ▸ (Below.refl _ _).alloc (Nat.le_refl _) _
    clear hw0
    go_wp2_with fail
    refine (add2_b _ _ _ _ _ rfl mb hb).mono ?_
    rintro e w1 ⟨rfl, h1⟩
    go_wp2_with fail
    refine (add2_b _ _ _ _ _ rfl ha hb).mono ?_
    rintro e w2 ⟨rfl, h2⟩
    go_wp2_with fail
    refine (sub1_b _ _ _ _ _ rfl mb hb).mono ?_
    rintro e w3 ⟨rfl, h3⟩
    go_wp2_with fail
    refine (sub1_b _ _ _ _ _ rfl ha hb).mono ?_
    rintro e w4 ⟨rfl, h4⟩
    go_wp2_with fail
    refine (sub1_b _ _ _ _ _ rfl hb mb).mono ?_
    rintro e w5 ⟨rfl, h5⟩
    go_wp2_with fail
    refine (sub1_b _ _ _ _ _ rfl hb ha).mono ?_
    rintro e w6 ⟨rfl, h6⟩
    go_wp2_with fail
    refine (fix_Mul_n _ _ _ mb hb).mono ?_
    rintro e w' ⟨rfl, rfl⟩
    go_wp2_with fail
    refine (fix_Mul_n _ _ _ ha hb).mono ?_
    rintro e w' ⟨rfl, rfl⟩
    go_wp2_with fail
    refine (share_b _ _ _ _ mb hb hc).mono ?_
    rintro e w7 ⟨rfl, h7⟩
    go_wp2_with fail
    refine (share_b _ _ _ _ ha hb hc).mono ?_
    rintro e w8 ⟨rfl, h8⟩
    go_wp2_with fail
    refine (fix_Over_pl _ _ _ _ mb hb hc).mono ?_
    rintro e w9 ⟨rfl, h9⟩
    go_wp2_with fail
    refine (fix_Over_pl _ _ _ _ ha hb hc).mono ?_
    rintro e w10 ⟨rfl, h10⟩
    go_wp2_with fail
    refine (share_b _ _ _ _ hb hc mb).mono ?_
    rintro e w11 ⟨rfl, h11⟩
    go_wp2_with fail
    refine (share_b _ _ _ _ hb hc ha).mono ?_
    rintro e w12 ⟨rfl, h12⟩
    go_wp2_with fail
    refine (fix_Over_pl _ _ _ _ hb hc mb).mono ?_
    rintro e w13 ⟨rfl, h13⟩
    go_wp2_with fail
    refine (fix_Over_pl _ _ _ _ hb hc ha).mono ?_
    rintro e w14 ⟨rfl, h14⟩
    go_wp2_with fail
    refine (alive01 _).mono ?_
    rintro e w15 ⟨rfl, h15⟩
    go_wp2_with fail
    go_ret
    exact ⟨rfl, (bnext (bnext (bnext (bnext (bnext (bnext (bnext (bnext (bnext (bnext (bnext (bnext (bnext (bnext (bnext h0 h1) h2) h3) h4) h5) h6) h7) h8) h9) h10) h11) h12) h13) h14) h15)⟩
end Go.Proofs.Ytjaiffmdoodfaaa
