/- Contracts of the document's own answers of layer 14 (goitref14), over this translation: Right, Wait, Next, Follows. -/
import Derived.Test.YtkgdfbiokgggmaaMoc
import Derived.Test.YtkgdfbiokgggmaaR1h
set_option linter.unusedVariables false
namespace Go.Proofs.Ytkgdfbiokgggmaa
open Go.RowKit Pl

theorem rf_Right (s : Int) (w : World) : Calls Try.prog 11 #[.int .i64 s] w fun e w' => e = .returned (.bool (rightI s)) ∧ w' = w := by
  have hr : rightI s = (decide ((0 : Int) ≤ s) && decide (s ≤ 6)) := rfl
  rw [hr]
  clear hr
  by_cases c : (0 : Int) ≤ s
  · have t1 : decide ((0 : Int) ≤ s) = true := decide_eq_true c
    rw [t1]
    clear c
    simp only [Bool.true_and]
    generalize hb : decide (s ≤ 6) = b at *
    go_enter Try.func11, Try.ntmps11
    go_wp2
    go_ret
    exact ⟨rfl, rfl⟩
  · have t1 : decide ((0 : Int) ≤ s) = false := decide_eq_false c
    rw [t1]
    clear c
    simp only [Bool.false_and]
    go_enter Try.func11, Try.ntmps11
    go_wp2
    go_ret
    exact ⟨rfl, rfl⟩

theorem rf_Wait (s : Int) (c p : Nat) (w : World) (hc : c ≤ 18446744073709551615) : Calls Try.prog 10 #[.int .i64 s, .int .u64 (c : Int), .int .u64 (p : Int)] w fun e w' => e = .returned (.int .u64 ((waitS s c p : Nat) : Int)) ∧ w' = w := by
  have HM : c % 8 ≤ 7 := by omega
  by_cases c2 : s = 2 ∨ s = 3
  · have HW : Hid ((waitS s c p : Nat) = 2000000 + 125000 * (c % 8)) := Lib.hid (if_pos c2)
    rcases c2 with rfl | rfl
    all_goals
      go_enter Try.func10, Try.ntmps10
      go_wp2
      go_ret
      exact ⟨ret_u64 (by rw [HW.out]; omega), rfl⟩
  · by_cases c6 : s = 6
    · subst c6
      have HW : Hid ((waitS 6 c p : Nat) = p) := Lib.hid rfl
      go_enter Try.func10, Try.ntmps10
      go_wp2
      go_ret
      exact ⟨ret_u64 (by rw [HW.out]), rfl⟩
    · have HW : Hid ((waitS s c p : Nat) = 0) := Lib.hid (by unfold waitS; rw [if_neg c2, if_neg c6])
      have t2 : (s == 2) = false := beq_eq_false_iff_ne.2 (fun h => c2 (Or.inl h))
      have t3 : (s == 3) = false := beq_eq_false_iff_ne.2 (fun h => c2 (Or.inr h))
      have t6 : (s == 6) = false := beq_eq_false_iff_ne.2 c6
      clear c2 c6
      go_enter Try.func10, Try.ntmps10
      go_wp2
      go_ret
      exact ⟨ret_u64 (by rw [HW.out]; rfl), rfl⟩

set_option maxRecDepth 100000 in
set_option maxHeartbeats 4000000 in
theorem rnext_t0 (f r l : Bool) (fl tg cp rs el wt : Nat) (w : World) (hx : SigS.ok ⟨f, r, l, true, fl, tg, cp, rs, el, wt⟩) :
    Calls Try.prog 8 #[.int .i64 0, .agg (SigS.cells ⟨f, r, l, true, fl, tg, cp, rs, el, wt⟩)] w fun e w' => e = .returned (.int .i64 6) ∧ Below w.heap.size w w' := by
  have HB := Lib.hid ((Below.refl w.heap.size w).alloc (Nat.le_refl _) (.cells (SigS.cells ⟨f, r, l, true, fl, tg, cp, rs, el, wt⟩) 25))
  have HK := Lib.hid (Blk.new w 25 (SigS.cells ⟨f, r, l, true, fl, tg, cp, rs, el, wt⟩))
  have HR := Lib.hid (fun w => rf_Right 0 w)
  rw [show rightI 0 = true by decide] at HR
  clear hx
  unfold SigS.cells at *
  dsimp only at *
  go_enter Try.func8, Try.ntmps8
  go_wp2_with fail
  refine (HR.out _).mono ?_
  rintro e w' ⟨rfl, rfl⟩
  go_wp2_with fail
  go_ret
  exact ⟨rfl, HB.out⟩

set_option maxRecDepth 100000 in
set_option maxHeartbeats 4000000 in
theorem rnext_t1 (f r l : Bool) (fl tg cp rs el wt : Nat) (w : World) (hx : SigS.ok ⟨f, r, l, true, fl, tg, cp, rs, el, wt⟩) :
    Calls Try.prog 8 #[.int .i64 1, .agg (SigS.cells ⟨f, r, l, true, fl, tg, cp, rs, el, wt⟩)] w fun e w' => e = .returned (.int .i64 6) ∧ Below w.heap.size w w' := by
  have HB := Lib.hid ((Below.refl w.heap.size w).alloc (Nat.le_refl _) (.cells (SigS.cells ⟨f, r, l, true, fl, tg, cp, rs, el, wt⟩) 25))
  have HK := Lib.hid (Blk.new w 25 (SigS.cells ⟨f, r, l, true, fl, tg, cp, rs, el, wt⟩))
  have HR := Lib.hid (fun w => rf_Right 1 w)
  rw [show rightI 1 = true by decide] at HR
  clear hx
  unfold SigS.cells at *
  dsimp only at *
  go_enter Try.func8, Try.ntmps8
  go_wp2_with fail
  refine (HR.out _).mono ?_
  rintro e w' ⟨rfl, rfl⟩
  go_wp2_with fail
  go_ret
  exact ⟨rfl, HB.out⟩

set_option maxRecDepth 100000 in
set_option maxHeartbeats 4000000 in
theorem rnext_t2 (f r l : Bool) (fl tg cp rs el wt : Nat) (w : World) (hx : SigS.ok ⟨f, r, l, true, fl, tg, cp, rs, el, wt⟩) :
    Calls Try.prog 8 #[.int .i64 2, .agg (SigS.cells ⟨f, r, l, true, fl, tg, cp, rs, el, wt⟩)] w fun e w' => e = .returned (.int .i64 6) ∧ Below w.heap.size w w' := by
  have HB := Lib.hid ((Below.refl w.heap.size w).alloc (Nat.le_refl _) (.cells (SigS.cells ⟨f, r, l, true, fl, tg, cp, rs, el, wt⟩) 25))
  have HK := Lib.hid (Blk.new w 25 (SigS.cells ⟨f, r, l, true, fl, tg, cp, rs, el, wt⟩))
  have HR := Lib.hid (fun w => rf_Right 2 w)
  rw [show rightI 2 = true by decide] at HR
  clear hx
  unfold SigS.cells at *
  dsimp only at *
  go_enter Try.func8, Try.ntmps8
  go_wp2_with fail
  refine (HR.out _).mono ?_
  rintro e w' ⟨rfl, rfl⟩
  go_wp2_with fail
  go_ret
  exact ⟨rfl, HB.out⟩

set_option maxRecDepth 100000 in
set_option maxHeartbeats 4000000 in
theorem rnext_t3 (f r l : Bool) (fl tg cp rs el wt : Nat) (w : World) (hx : SigS.ok ⟨f, r, l, true, fl, tg, cp, rs, el, wt⟩) :
    Calls Try.prog 8 #[.int .i64 3, .agg (SigS.cells ⟨f, r, l, true, fl, tg, cp, rs, el, wt⟩)] w fun e w' => e = .returned (.int .i64 6) ∧ Below w.heap.size w w' := by
  have HB := Lib.hid ((Below.refl w.heap.size w).alloc (Nat.le_refl _) (.cells (SigS.cells ⟨f, r, l, true, fl, tg, cp, rs, el, wt⟩) 25))
  have HK := Lib.hid (Blk.new w 25 (SigS.cells ⟨f, r, l, true, fl, tg, cp, rs, el, wt⟩))
  have HR := Lib.hid (fun w => rf_Right 3 w)
  rw [show rightI 3 = true by decide] at HR
  clear hx
  unfold SigS.cells at *
  dsimp only at *
  go_enter Try.func8, Try.ntmps8
  go_wp2_with fail
  refine (HR.out _).mono ?_
  rintro e w' ⟨rfl, rfl⟩
  go_wp2_with fail
  go_ret
  exact ⟨rfl, HB.out⟩

set_option maxRecDepth 100000 in
set_option maxHeartbeats 4000000 in
theorem rnext_t4 (f r l : Bool) (fl tg cp rs el wt : Nat) (w : World) (hx : SigS.ok ⟨f, r, l, true, fl, tg, cp, rs, el, wt⟩) :
    Calls Try.prog 8 #[.int .i64 4, .agg (SigS.cells ⟨f, r, l, true, fl, tg, cp, rs, el, wt⟩)] w fun e w' => e = .returned (.int .i64 6) ∧ Below w.heap.size w w' := by
  have HB := Lib.hid ((Below.refl w.heap.size w).alloc (Nat.le_refl _) (.cells (SigS.cells ⟨f, r, l, true, fl, tg, cp, rs, el, wt⟩) 25))
  have HK := Lib.hid (Blk.new w 25 (SigS.cells ⟨f, r, l, true, fl, tg, cp, rs, el, wt⟩))
  have HR := Lib.hid (fun w => rf_Right 4 w)
  rw [show rightI 4 = true by decide] at HR
  clear hx
  unfold SigS.cells at *
  dsimp only at *
  go_enter Try.func8, Try.ntmps8
  go_wp2_with fail
  refine (HR.out _).mono ?_
  rintro e w' ⟨rfl, rfl⟩
  go_wp2_with fail
  go_ret
  exact ⟨rfl, HB.out⟩

set_option maxRecDepth 100000 in
set_option maxHeartbeats 4000000 in
theorem rnext_t5 (f r l : Bool) (fl tg cp rs el wt : Nat) (w : World) (hx : SigS.ok ⟨f, r, l, true, fl, tg, cp, rs, el, wt⟩) :
    Calls Try.prog 8 #[.int .i64 5, .agg (SigS.cells ⟨f, r, l, true, fl, tg, cp, rs, el, wt⟩)] w fun e w' => e = .returned (.int .i64 6) ∧ Below w.heap.size w w' := by
  have HB := Lib.hid ((Below.refl w.heap.size w).alloc (Nat.le_refl _) (.cells (SigS.cells ⟨f, r, l, true, fl, tg, cp, rs, el, wt⟩) 25))
  have HK := Lib.hid (Blk.new w 25 (SigS.cells ⟨f, r, l, true, fl, tg, cp, rs, el, wt⟩))
  have HR := Lib.hid (fun w => rf_Right 5 w)
  rw [show rightI 5 = true by decide] at HR
  clear hx
  unfold SigS.cells at *
  dsimp only at *
  go_enter Try.func8, Try.ntmps8
  go_wp2_with fail
  refine (HR.out _).mono ?_
  rintro e w' ⟨rfl, rfl⟩
  go_wp2_with fail
  go_ret
  exact ⟨rfl, HB.out⟩

set_option maxRecDepth 100000 in
set_option maxHeartbeats 4000000 in
theorem rnext_f0 (f r l : Bool) (fl tg cp rs el wt : Nat) (w : World) (hx : SigS.ok ⟨f, r, l, false, fl, tg, cp, rs, el, wt⟩) :
    Calls Try.prog 8 #[.int .i64 0, .agg (SigS.cells ⟨f, r, l, false, fl, tg, cp, rs, el, wt⟩)] w fun e w' => e = .returned (.int .i64 (stepS 0 ⟨f, r, l, false, fl, tg, cp, rs, el, wt⟩)) ∧ Below w.heap.size w w' := by
  have HB := Lib.hid ((Below.refl w.heap.size w).alloc (Nat.le_refl _) (.cells (SigS.cells ⟨f, r, l, false, fl, tg, cp, rs, el, wt⟩) 25))
  have HK := Lib.hid (Blk.new w 25 (SigS.cells ⟨f, r, l, false, fl, tg, cp, rs, el, wt⟩))
  have HR := Lib.hid (fun w => rf_Right 0 w)
  rw [show rightI 0 = true by decide] at HR
  clear hx
  unfold SigS.cells at *
  dsimp only at *
  cases f <;> cases l
  all_goals
    go_enter Try.func8, Try.ntmps8
    go_wp2_with fail
    refine (HR.out _).mono ?_
    rintro e w' ⟨rfl, rfl⟩
    go_wp2_with fail
    go_ret
    exact ⟨rfl, HB.out⟩

set_option maxRecDepth 100000 in
set_option maxHeartbeats 4000000 in
theorem rnext_f1 (f r l : Bool) (fl tg cp rs el wt : Nat) (w : World) (hx : SigS.ok ⟨f, r, l, false, fl, tg, cp, rs, el, wt⟩) :
    Calls Try.prog 8 #[.int .i64 1, .agg (SigS.cells ⟨f, r, l, false, fl, tg, cp, rs, el, wt⟩)] w fun e w' => e = .returned (.int .i64 (stepS 1 ⟨f, r, l, false, fl, tg, cp, rs, el, wt⟩)) ∧ Below w.heap.size w w' := by
  have HB := Lib.hid ((Below.refl w.heap.size w).alloc (Nat.le_refl _) (.cells (SigS.cells ⟨f, r, l, false, fl, tg, cp, rs, el, wt⟩) 25))
  have HK := Lib.hid (Blk.new w 25 (SigS.cells ⟨f, r, l, false, fl, tg, cp, rs, el, wt⟩))
  have HR := Lib.hid (fun w => rf_Right 1 w)
  rw [show rightI 1 = true by decide] at HR
  clear hx
  by_cases c : fl ≤ tg
  · have HS : Hid (stepS 1 ⟨f, r, l, false, fl, tg, cp, rs, el, wt⟩ = 2) := Lib.hid (by unfold stepS; rw [if_neg (by decide), if_pos rfl, if_pos c])
    have t1 : decide (fl ≤ tg) = true := decide_eq_true c
    clear c
    unfold SigS.cells at *
    dsimp only at *
    go_enter Try.func8, Try.ntmps8
    go_wp2_with fail
    refine (HR.out _).mono ?_
    rintro e w' ⟨rfl, rfl⟩
    go_wp2_with fail
    go_ret
    exact ⟨by rw [HS.out]; rfl, HB.out⟩
  · have HS : Hid (stepS 1 ⟨f, r, l, false, fl, tg, cp, rs, el, wt⟩ = 1) := Lib.hid (by unfold stepS; rw [if_neg (by decide), if_pos rfl, if_neg c])
    have t1 : decide (fl ≤ tg) = false := decide_eq_false c
    clear c
    unfold SigS.cells at *
    dsimp only at *
    go_enter Try.func8, Try.ntmps8
    go_wp2_with fail
    refine (HR.out _).mono ?_
    rintro e w' ⟨rfl, rfl⟩
    go_wp2_with fail
    go_ret
    exact ⟨by rw [HS.out]; rfl, HB.out⟩

set_option maxRecDepth 100000 in
set_option maxHeartbeats 4000000 in
theorem rnext_f2 (f r l : Bool) (fl tg cp rs el wt : Nat) (w : World) (hx : SigS.ok ⟨f, r, l, false, fl, tg, cp, rs, el, wt⟩) :
    Calls Try.prog 8 #[.int .i64 2, .agg (SigS.cells ⟨f, r, l, false, fl, tg, cp, rs, el, wt⟩)] w fun e w' => e = .returned (.int .i64 (stepS 2 ⟨f, r, l, false, fl, tg, cp, rs, el, wt⟩)) ∧ Below w.heap.size w w' := by
  have HB := Lib.hid ((Below.refl w.heap.size w).alloc (Nat.le_refl _) (.cells (SigS.cells ⟨f, r, l, false, fl, tg, cp, rs, el, wt⟩) 25))
  have HK := Lib.hid (Blk.new w 25 (SigS.cells ⟨f, r, l, false, fl, tg, cp, rs, el, wt⟩))
  have HR := Lib.hid (fun w => rf_Right 2 w)
  rw [show rightI 2 = true by decide] at HR
  clear hx
  by_cases c1 : fl ≤ tg
  · have t1 : decide (fl ≤ tg) = true := decide_eq_true c1
    by_cases c2 : fl ≤ cp
    · have HS : Hid (stepS 2 ⟨f, r, l, false, fl, tg, cp, rs, el, wt⟩ = 3) := Lib.hid (by unfold stepS; rw [if_neg (by decide), if_neg (by decide), if_pos rfl, if_pos (show fl ≤ min tg cp by omega)])
      have t2 : decide (fl ≤ cp) = true := decide_eq_true c2
      clear c1 c2
      unfold SigS.cells at *
      dsimp only at *
      go_enter Try.func8, Try.ntmps8
      go_wp2_with fail
      refine (HR.out _).mono ?_
      rintro e w' ⟨rfl, rfl⟩
      go_wp2_with fail
      go_ret
      exact ⟨by rw [HS.out]; rfl, HB.out⟩
    · have HS : Hid (stepS 2 ⟨f, r, l, false, fl, tg, cp, rs, el, wt⟩ = if overS ⟨f, r, l, false, fl, tg, cp, rs, el, wt⟩ = true then 4 else 2) := Lib.hid (by unfold stepS; rw [if_neg (by decide), if_neg (by decide), if_pos rfl, if_neg (show ¬ fl ≤ min tg cp by omega)])
      have t2 : decide (fl ≤ cp) = false := decide_eq_false c2
      clear c1 c2
      have ho : overS ⟨f, r, l, false, fl, tg, cp, rs, el, wt⟩ = decide (wt ≤ el) := rfl
      rw [ho] at HS
      clear ho
      generalize hb : decide (wt ≤ el) = b at *
      unfold SigS.cells at *
      dsimp only at *
      cases b
      all_goals
        go_enter Try.func8, Try.ntmps8
        go_wp2_with fail
        refine (HR.out _).mono ?_
        rintro e w' ⟨rfl, rfl⟩
        go_wp2_with fail
        go_ret
        exact ⟨by rw [HS.out]; rfl, HB.out⟩
  · have HS : Hid (stepS 2 ⟨f, r, l, false, fl, tg, cp, rs, el, wt⟩ = if overS ⟨f, r, l, false, fl, tg, cp, rs, el, wt⟩ = true then 4 else 2) := Lib.hid (by unfold stepS; rw [if_neg (by decide), if_neg (by decide), if_pos rfl, if_neg (show ¬ fl ≤ min tg cp by omega)])
    have t1 : decide (fl ≤ tg) = false := decide_eq_false c1
    clear c1
    have ho : overS ⟨f, r, l, false, fl, tg, cp, rs, el, wt⟩ = decide (wt ≤ el) := rfl
    rw [ho] at HS
    clear ho
    generalize hb : decide (wt ≤ el) = b at *
    unfold SigS.cells at *
    dsimp only at *
    cases b
    all_goals
      go_enter Try.func8, Try.ntmps8
      go_wp2_with fail
      refine (HR.out _).mono ?_
      rintro e w' ⟨rfl, rfl⟩
      go_wp2_with fail
      go_ret
      exact ⟨by rw [HS.out]; rfl, HB.out⟩

set_option maxRecDepth 100000 in
set_option maxHeartbeats 4000000 in
theorem rnext_f3 (f r l : Bool) (fl tg cp rs el wt : Nat) (w : World) (hx : SigS.ok ⟨f, r, l, false, fl, tg, cp, rs, el, wt⟩) :
    Calls Try.prog 8 #[.int .i64 3, .agg (SigS.cells ⟨f, r, l, false, fl, tg, cp, rs, el, wt⟩)] w fun e w' => e = .returned (.int .i64 (stepS 3 ⟨f, r, l, false, fl, tg, cp, rs, el, wt⟩)) ∧ Below w.heap.size w w' := by
  have HB := Lib.hid ((Below.refl w.heap.size w).alloc (Nat.le_refl _) (.cells (SigS.cells ⟨f, r, l, false, fl, tg, cp, rs, el, wt⟩) 25))
  have HK := Lib.hid (Blk.new w 25 (SigS.cells ⟨f, r, l, false, fl, tg, cp, rs, el, wt⟩))
  have HR := Lib.hid (fun w => rf_Right 3 w)
  rw [show rightI 3 = true by decide] at HR
  clear hx
  have HS : Hid (stepS 3 ⟨f, r, l, false, fl, tg, cp, rs, el, wt⟩ = if overS ⟨f, r, l, false, fl, tg, cp, rs, el, wt⟩ = true then 4 else 3) := Lib.hid (by unfold stepS; rw [if_neg (by decide), if_neg (by decide), if_neg (by decide), if_pos rfl])
  have ho : overS ⟨f, r, l, false, fl, tg, cp, rs, el, wt⟩ = decide (wt ≤ el) := rfl
  rw [ho] at HS
  clear ho
  generalize hb : decide (wt ≤ el) = b at *
  unfold SigS.cells at *
  dsimp only at *
  cases b
  all_goals
    go_enter Try.func8, Try.ntmps8
    go_wp2_with fail
    refine (HR.out _).mono ?_
    rintro e w' ⟨rfl, rfl⟩
    go_wp2_with fail
    go_ret
    exact ⟨by rw [HS.out]; rfl, HB.out⟩

set_option maxRecDepth 100000 in
set_option maxHeartbeats 4000000 in
theorem rnext_f4 (f r l : Bool) (fl tg cp rs el wt : Nat) (w : World) (hx : SigS.ok ⟨f, r, l, false, fl, tg, cp, rs, el, wt⟩) :
    Calls Try.prog 8 #[.int .i64 4, .agg (SigS.cells ⟨f, r, l, false, fl, tg, cp, rs, el, wt⟩)] w fun e w' => e = .returned (.int .i64 (stepS 4 ⟨f, r, l, false, fl, tg, cp, rs, el, wt⟩)) ∧ Below w.heap.size w w' := by
  have HB := Lib.hid ((Below.refl w.heap.size w).alloc (Nat.le_refl _) (.cells (SigS.cells ⟨f, r, l, false, fl, tg, cp, rs, el, wt⟩) 25))
  have HK := Lib.hid (Blk.new w 25 (SigS.cells ⟨f, r, l, false, fl, tg, cp, rs, el, wt⟩))
  have HR := Lib.hid (fun w => rf_Right 4 w)
  rw [show rightI 4 = true by decide] at HR
  clear hx
  by_cases c : 1 ≤ rs
  · have HS : Hid (stepS 4 ⟨f, r, l, false, fl, tg, cp, rs, el, wt⟩ = 5) := Lib.hid (by unfold stepS; rw [if_neg (by decide), if_neg (by decide), if_neg (by decide), if_neg (by decide), if_pos rfl, if_pos c])
    have t1 : decide ((1 : Int) ≤ (rs : Int)) = true := decide_eq_true (by omega)
    clear c
    unfold SigS.cells at *
    dsimp only at *
    go_enter Try.func8, Try.ntmps8
    go_wp2_with fail
    refine (HR.out _).mono ?_
    rintro e w' ⟨rfl, rfl⟩
    go_wp2_with fail
    go_ret
    exact ⟨by rw [HS.out]; rfl, HB.out⟩
  · have HS : Hid (stepS 4 ⟨f, r, l, false, fl, tg, cp, rs, el, wt⟩ = 4) := Lib.hid (by unfold stepS; rw [if_neg (by decide), if_neg (by decide), if_neg (by decide), if_neg (by decide), if_pos rfl, if_neg c])
    have t1 : decide ((1 : Int) ≤ (rs : Int)) = false := decide_eq_false (by omega)
    clear c
    unfold SigS.cells at *
    dsimp only at *
    go_enter Try.func8, Try.ntmps8
    go_wp2_with fail
    refine (HR.out _).mono ?_
    rintro e w' ⟨rfl, rfl⟩
    go_wp2_with fail
    go_ret
    exact ⟨by rw [HS.out]; rfl, HB.out⟩

set_option maxRecDepth 100000 in
set_option maxHeartbeats 4000000 in
theorem rnext_f5 (f r l : Bool) (fl tg cp rs el wt : Nat) (w : World) (hx : SigS.ok ⟨f, r, l, false, fl, tg, cp, rs, el, wt⟩) :
    Calls Try.prog 8 #[.int .i64 5, .agg (SigS.cells ⟨f, r, l, false, fl, tg, cp, rs, el, wt⟩)] w fun e w' => e = .returned (.int .i64 (stepS 5 ⟨f, r, l, false, fl, tg, cp, rs, el, wt⟩)) ∧ Below w.heap.size w w' := by
  have HB := Lib.hid ((Below.refl w.heap.size w).alloc (Nat.le_refl _) (.cells (SigS.cells ⟨f, r, l, false, fl, tg, cp, rs, el, wt⟩) 25))
  have HK := Lib.hid (Blk.new w 25 (SigS.cells ⟨f, r, l, false, fl, tg, cp, rs, el, wt⟩))
  have HR := Lib.hid (fun w => rf_Right 5 w)
  rw [show rightI 5 = true by decide] at HR
  have HH := Lib.hid (fun w => (ref_Share tg 5 4 w hx.tg (by omega) (by omega)).mono fun _ _ h => (⟨h.1, h.2.symm⟩ : _ ∧ _))
  clear hx
  by_cases c : 1 ≤ rs
  · have HS : Hid (stepS 5 ⟨f, r, l, false, fl, tg, cp, rs, el, wt⟩ = if (l || (true && highS ⟨f, r, l, false, fl, tg, cp, rs, el, wt⟩)) = true then 2 else 5) := Lib.hid (by unfold stepS; rw [if_neg (by decide), if_neg (by decide), if_neg (by decide), if_neg (by decide), if_neg (by decide), if_pos rfl]; rw [decide_eq_true c])
    have t1 : decide ((1 : Int) ≤ (rs : Int)) = true := decide_eq_true (by omega)
    clear c
    have ho : highS ⟨f, r, l, false, fl, tg, cp, rs, el, wt⟩ = decide (shareS tg 5 4 ≤ fl) := rfl
    rw [ho] at HS
    clear ho
    generalize shareS tg 5 4 = q at *
    generalize hb : decide (q ≤ fl) = bh at *
    unfold SigS.cells at *
    dsimp only at *
    cases l <;> cases bh
    all_goals
      go_enter Try.func8, Try.ntmps8
      go_wp2_with fail
      refine (HR.out _).mono ?_
      rintro e w' ⟨rfl, rfl⟩
      go_wp2_with fail
      go_quiet (first | (go_at_call 18; exact Calls.quiet_of_same (HH.out _)))
      go_wp2_with fail
      go_ret
      exact ⟨by rw [HS.out]; rfl, HB.out.trans (Drawn.below ⟨_, rfl⟩ _)⟩
  · have HS : Hid (stepS 5 ⟨f, r, l, false, fl, tg, cp, rs, el, wt⟩ = if (l || (false && highS ⟨f, r, l, false, fl, tg, cp, rs, el, wt⟩)) = true then 2 else 5) := Lib.hid (by unfold stepS; rw [if_neg (by decide), if_neg (by decide), if_neg (by decide), if_neg (by decide), if_neg (by decide), if_pos rfl]; rw [decide_eq_false c])
    have t1 : decide ((1 : Int) ≤ (rs : Int)) = false := decide_eq_false (by omega)
    clear c
    have ho : highS ⟨f, r, l, false, fl, tg, cp, rs, el, wt⟩ = decide (shareS tg 5 4 ≤ fl) := rfl
    rw [ho] at HS
    clear ho
    generalize shareS tg 5 4 = q at *
    generalize hb : decide (q ≤ fl) = bh at *
    unfold SigS.cells at *
    dsimp only at *
    cases l <;> cases bh
    all_goals
      go_enter Try.func8, Try.ntmps8
      go_wp2_with fail
      refine (HR.out _).mono ?_
      rintro e w' ⟨rfl, rfl⟩
      go_wp2_with fail
      go_quiet (first | (go_at_call 18; exact Calls.quiet_of_same (HH.out _)))
      go_wp2_with fail
      go_ret
      exact ⟨by rw [HS.out]; rfl, HB.out.trans (Drawn.below ⟨_, rfl⟩ _)⟩

set_option maxRecDepth 100000 in
set_option maxHeartbeats 4000000 in
theorem rnext_t6 (f r l : Bool) (fl tg cp rs el wt : Nat) (w : World) (hx : SigS.ok ⟨f, r, l, true, fl, tg, cp, rs, el, wt⟩) :
    Calls Try.prog 8 #[.int .i64 6, .agg (SigS.cells ⟨f, r, l, true, fl, tg, cp, rs, el, wt⟩)] w fun e w' => e = .returned (.int .i64 (stepS 6 ⟨f, r, l, true, fl, tg, cp, rs, el, wt⟩)) ∧ Below w.heap.size w w' := by
  have HB := Lib.hid ((Below.refl w.heap.size w).alloc (Nat.le_refl _) (.cells (SigS.cells ⟨f, r, l, true, fl, tg, cp, rs, el, wt⟩) 25))
  have HK := Lib.hid (Blk.new w 25 (SigS.cells ⟨f, r, l, true, fl, tg, cp, rs, el, wt⟩))
  have HR := Lib.hid (fun w => rf_Right 6 w)
  rw [show rightI 6 = true by decide] at HR
  clear hx
  by_cases c : 1 ≤ rs
  · have HS : Hid (stepS 6 ⟨f, r, l, true, fl, tg, cp, rs, el, wt⟩ = if (overS ⟨f, r, l, true, fl, tg, cp, rs, el, wt⟩ && true) = true then (if f = true then 3 else 0) else 6) := Lib.hid (by unfold stepS; rw [if_neg (by decide), if_neg (by decide), if_neg (by decide), if_neg (by decide), if_neg (by decide), if_neg (by decide), if_pos rfl]; rw [decide_eq_true c])
    have t1 : decide ((1 : Int) ≤ (rs : Int)) = true := decide_eq_true (by omega)
    clear c
    have ho : overS ⟨f, r, l, true, fl, tg, cp, rs, el, wt⟩ = decide (wt ≤ el) := rfl
    rw [ho] at HS
    clear ho
    generalize hb : decide (wt ≤ el) = b at *
    unfold SigS.cells at *
    dsimp only at *
    cases b <;> cases f
    all_goals
      go_enter Try.func8, Try.ntmps8
      go_wp2_with fail
      refine (HR.out _).mono ?_
      rintro e w' ⟨rfl, rfl⟩
      go_wp2_with fail
      go_ret
      exact ⟨by rw [HS.out]; rfl, HB.out⟩
  · have HS : Hid (stepS 6 ⟨f, r, l, true, fl, tg, cp, rs, el, wt⟩ = if (overS ⟨f, r, l, true, fl, tg, cp, rs, el, wt⟩ && false) = true then (if f = true then 3 else 0) else 6) := Lib.hid (by unfold stepS; rw [if_neg (by decide), if_neg (by decide), if_neg (by decide), if_neg (by decide), if_neg (by decide), if_neg (by decide), if_pos rfl]; rw [decide_eq_false c])
    have t1 : decide ((1 : Int) ≤ (rs : Int)) = false := decide_eq_false (by omega)
    clear c
    have ho : overS ⟨f, r, l, true, fl, tg, cp, rs, el, wt⟩ = decide (wt ≤ el) := rfl
    rw [ho] at HS
    clear ho
    generalize hb : decide (wt ≤ el) = b at *
    unfold SigS.cells at *
    dsimp only at *
    cases b <;> cases f
    all_goals
      go_enter Try.func8, Try.ntmps8
      go_wp2_with fail
      refine (HR.out _).mono ?_
      rintro e w' ⟨rfl, rfl⟩
      go_wp2_with fail
      go_ret
      exact ⟨by rw [HS.out]; rfl, HB.out⟩

set_option maxRecDepth 100000 in
set_option maxHeartbeats 4000000 in
theorem rnext_f6 (f r l : Bool) (fl tg cp rs el wt : Nat) (w : World) (hx : SigS.ok ⟨f, r, l, false, fl, tg, cp, rs, el, wt⟩) :
    Calls Try.prog 8 #[.int .i64 6, .agg (SigS.cells ⟨f, r, l, false, fl, tg, cp, rs, el, wt⟩)] w fun e w' => e = .returned (.int .i64 (stepS 6 ⟨f, r, l, false, fl, tg, cp, rs, el, wt⟩)) ∧ Below w.heap.size w w' := by
  have HB := Lib.hid ((Below.refl w.heap.size w).alloc (Nat.le_refl _) (.cells (SigS.cells ⟨f, r, l, false, fl, tg, cp, rs, el, wt⟩) 25))
  have HK := Lib.hid (Blk.new w 25 (SigS.cells ⟨f, r, l, false, fl, tg, cp, rs, el, wt⟩))
  have HR := Lib.hid (fun w => rf_Right 6 w)
  rw [show rightI 6 = true by decide] at HR
  clear hx
  by_cases c : 1 ≤ rs
  · have HS : Hid (stepS 6 ⟨f, r, l, false, fl, tg, cp, rs, el, wt⟩ = if (overS ⟨f, r, l, false, fl, tg, cp, rs, el, wt⟩ && true) = true then (if f = true then 3 else 0) else 6) := Lib.hid (by unfold stepS; rw [if_neg (by decide), if_neg (by decide), if_neg (by decide), if_neg (by decide), if_neg (by decide), if_neg (by decide), if_pos rfl]; rw [decide_eq_true c])
    have t1 : decide ((1 : Int) ≤ (rs : Int)) = true := decide_eq_true (by omega)
    clear c
    have ho : overS ⟨f, r, l, false, fl, tg, cp, rs, el, wt⟩ = decide (wt ≤ el) := rfl
    rw [ho] at HS
    clear ho
    generalize hb : decide (wt ≤ el) = b at *
    unfold SigS.cells at *
    dsimp only at *
    cases b <;> cases f
    all_goals
      go_enter Try.func8, Try.ntmps8
      go_wp2_with fail
      refine (HR.out _).mono ?_
      rintro e w' ⟨rfl, rfl⟩
      go_wp2_with fail
      go_ret
      exact ⟨by rw [HS.out]; rfl, HB.out⟩
  · have HS : Hid (stepS 6 ⟨f, r, l, false, fl, tg, cp, rs, el, wt⟩ = if (overS ⟨f, r, l, false, fl, tg, cp, rs, el, wt⟩ && false) = true then (if f = true then 3 else 0) else 6) := Lib.hid (by unfold stepS; rw [if_neg (by decide), if_neg (by decide), if_neg (by decide), if_neg (by decide), if_neg (by decide), if_neg (by decide), if_pos rfl]; rw [decide_eq_false c])
    have t1 : decide ((1 : Int) ≤ (rs : Int)) = false := decide_eq_false (by omega)
    clear c
    have ho : overS ⟨f, r, l, false, fl, tg, cp, rs, el, wt⟩ = decide (wt ≤ el) := rfl
    rw [ho] at HS
    clear ho
    generalize hb : decide (wt ≤ el) = b at *
    unfold SigS.cells at *
    dsimp only at *
    cases b <;> cases f
    all_goals
      go_enter Try.func8, Try.ntmps8
      go_wp2_with fail
      refine (HR.out _).mono ?_
      rintro e w' ⟨rfl, rfl⟩
      go_wp2_with fail
      go_ret
      exact ⟨by rw [HS.out]; rfl, HB.out⟩

set_option maxRecDepth 100000 in
set_option maxHeartbeats 4000000 in
theorem rnext_o (s : Int) (f r l st : Bool) (fl tg cp rs el wt : Nat) (w : World) (hx : SigS.ok ⟨f, r, l, st, fl, tg, cp, rs, el, wt⟩) (hs : s < 0 ∨ 6 < s) :
    Calls Try.prog 8 #[.int .i64 s, .agg (SigS.cells ⟨f, r, l, st, fl, tg, cp, rs, el, wt⟩)] w fun e w' => e = .returned (.int .i64 s) ∧ Below w.heap.size w w' := by
  have HB := Lib.hid ((Below.refl w.heap.size w).alloc (Nat.le_refl _) (.cells (SigS.cells ⟨f, r, l, st, fl, tg, cp, rs, el, wt⟩) 25))
  have HK := Lib.hid (Blk.new w 25 (SigS.cells ⟨f, r, l, st, fl, tg, cp, rs, el, wt⟩))
  have HR := Lib.hid (fun w => rf_Right s w)
  rw [right_out hs] at HR
  clear hx
  unfold SigS.cells at *
  dsimp only at *
  go_enter Try.func8, Try.ntmps8
  go_wp2_with fail
  refine (HR.out _).mono ?_
  rintro e w' ⟨rfl, rfl⟩
  go_wp2_with fail
  go_ret
  exact ⟨rfl, HB.out⟩

theorem rf_Next (s : Int) (x : SigS) (hx : x.ok) (w : World) : Calls Try.prog 8 #[.int .i64 s, .agg x.cells] w fun e w' => e = .returned (.int .i64 (nextS s x)) ∧ Below w.heap.size w w' := by
  obtain ⟨f, r, l, st, fl, tg, cp, rs, el, wt⟩ := x
  have ho : ∀ s, (s < 0 ∨ 6 < s) → Calls Try.prog 8 #[.int .i64 s, .agg (SigS.cells ⟨f, r, l, st, fl, tg, cp, rs, el, wt⟩)] w fun e w' => e = .returned (.int .i64 (nextS s ⟨f, r, l, st, fl, tg, cp, rs, el, wt⟩)) ∧ Below w.heap.size w w' := fun s hs => by
    rw [next_out hs]; exact rnext_o s f r l st fl tg cp rs el wt w hx hs
  cases st
  · rw [next_step (Or.inl rfl)]
    revert s
    refine st_cases (rnext_f0 f r l fl tg cp rs el wt w hx) (rnext_f1 f r l fl tg cp rs el wt w hx) (rnext_f2 f r l fl tg cp rs el wt w hx) (rnext_f3 f r l fl tg cp rs el wt w hx) (rnext_f4 f r l fl tg cp rs el wt w hx) (rnext_f5 f r l fl tg cp rs el wt w hx) (rnext_f6 f r l fl tg cp rs el wt w hx) (fun s hs => ?_)
    have h := ho s hs
    rw [next_step (Or.inl rfl)] at h
    exact h
  · revert s
    refine st_cases ?_ ?_ ?_ ?_ ?_ ?_ ?_ ho
    · rw [next_stale (by decide) (by decide) rfl]; exact rnext_t0 f r l fl tg cp rs el wt w hx
    · rw [next_stale (by decide) (by decide) rfl]; exact rnext_t1 f r l fl tg cp rs el wt w hx
    · rw [next_stale (by decide) (by decide) rfl]; exact rnext_t2 f r l fl tg cp rs el wt w hx
    · rw [next_stale (by decide) (by decide) rfl]; exact rnext_t3 f r l fl tg cp rs el wt w hx
    · rw [next_stale (by decide) (by decide) rfl]; exact rnext_t4 f r l fl tg cp rs el wt w hx
    · rw [next_stale (by decide) (by decide) rfl]; exact rnext_t5 f r l fl tg cp rs el wt w hx
    · rw [next_step (Or.inr (Or.inr rfl))]; exact rnext_t6 f r l fl tg cp rs el wt w hx

set_option maxRecDepth 100000 in
set_option maxHeartbeats 4000000 in
theorem rfol_0 (t : Int) (w : World) : Calls Try.prog 13 #[.int .i64 0, .int .i64 t] w fun e w' => e = .returned (.bool (followsS 0 t)) ∧ w' = w := by
  revert t
  refine st_cases ?_ ?_ ?_ ?_ ?_ ?_ ?_ (fun t ht => ?_)
  · rw [show followsS 0 0 = true by decide]
    have H1 := Lib.hid (fun w => rf_Right 0 w)
    rw [show rightI 0 = true by decide] at H1
    have H2 := Lib.hid (fun w => rf_Right 0 w)
    rw [show rightI 0 = true by decide] at H2
    go_enter Try.func13, Try.ntmps13
    go_wp2_with fail
    refine (H1.out _).mono ?_
    rintro e w' ⟨rfl, rfl⟩
    go_wp2_with fail
    refine (H2.out _).mono ?_
    rintro e w' ⟨rfl, rfl⟩
    go_wp2_with fail
    go_ret
    exact ⟨rfl, rfl⟩
  · rw [show followsS 0 1 = true by decide]
    have H1 := Lib.hid (fun w => rf_Right 0 w)
    rw [show rightI 0 = true by decide] at H1
    have H2 := Lib.hid (fun w => rf_Right 1 w)
    rw [show rightI 1 = true by decide] at H2
    go_enter Try.func13, Try.ntmps13
    go_wp2_with fail
    refine (H1.out _).mono ?_
    rintro e w' ⟨rfl, rfl⟩
    go_wp2_with fail
    refine (H2.out _).mono ?_
    rintro e w' ⟨rfl, rfl⟩
    go_wp2_with fail
    go_ret
    exact ⟨rfl, rfl⟩
  · rw [show followsS 0 2 = false by decide]
    have H1 := Lib.hid (fun w => rf_Right 0 w)
    rw [show rightI 0 = true by decide] at H1
    have H2 := Lib.hid (fun w => rf_Right 2 w)
    rw [show rightI 2 = true by decide] at H2
    go_enter Try.func13, Try.ntmps13
    go_wp2_with fail
    refine (H1.out _).mono ?_
    rintro e w' ⟨rfl, rfl⟩
    go_wp2_with fail
    refine (H2.out _).mono ?_
    rintro e w' ⟨rfl, rfl⟩
    go_wp2_with fail
    go_ret
    exact ⟨rfl, rfl⟩
  · rw [show followsS 0 3 = false by decide]
    have H1 := Lib.hid (fun w => rf_Right 0 w)
    rw [show rightI 0 = true by decide] at H1
    have H2 := Lib.hid (fun w => rf_Right 3 w)
    rw [show rightI 3 = true by decide] at H2
    go_enter Try.func13, Try.ntmps13
    go_wp2_with fail
    refine (H1.out _).mono ?_
    rintro e w' ⟨rfl, rfl⟩
    go_wp2_with fail
    refine (H2.out _).mono ?_
    rintro e w' ⟨rfl, rfl⟩
    go_wp2_with fail
    go_ret
    exact ⟨rfl, rfl⟩
  · rw [show followsS 0 4 = false by decide]
    have H1 := Lib.hid (fun w => rf_Right 0 w)
    rw [show rightI 0 = true by decide] at H1
    have H2 := Lib.hid (fun w => rf_Right 4 w)
    rw [show rightI 4 = true by decide] at H2
    go_enter Try.func13, Try.ntmps13
    go_wp2_with fail
    refine (H1.out _).mono ?_
    rintro e w' ⟨rfl, rfl⟩
    go_wp2_with fail
    refine (H2.out _).mono ?_
    rintro e w' ⟨rfl, rfl⟩
    go_wp2_with fail
    go_ret
    exact ⟨rfl, rfl⟩
  · rw [show followsS 0 5 = false by decide]
    have H1 := Lib.hid (fun w => rf_Right 0 w)
    rw [show rightI 0 = true by decide] at H1
    have H2 := Lib.hid (fun w => rf_Right 5 w)
    rw [show rightI 5 = true by decide] at H2
    go_enter Try.func13, Try.ntmps13
    go_wp2_with fail
    refine (H1.out _).mono ?_
    rintro e w' ⟨rfl, rfl⟩
    go_wp2_with fail
    refine (H2.out _).mono ?_
    rintro e w' ⟨rfl, rfl⟩
    go_wp2_with fail
    go_ret
    exact ⟨rfl, rfl⟩
  · rw [show followsS 0 6 = true by decide]
    have H1 := Lib.hid (fun w => rf_Right 0 w)
    rw [show rightI 0 = true by decide] at H1
    have H2 := Lib.hid (fun w => rf_Right 6 w)
    rw [show rightI 6 = true by decide] at H2
    go_enter Try.func13, Try.ntmps13
    go_wp2_with fail
    refine (H1.out _).mono ?_
    rintro e w' ⟨rfl, rfl⟩
    go_wp2_with fail
    refine (H2.out _).mono ?_
    rintro e w' ⟨rfl, rfl⟩
    go_wp2_with fail
    go_ret
    exact ⟨rfl, rfl⟩
  · rw [follows_out' ht]
    have H1 := Lib.hid (fun w => rf_Right 0 w)
    rw [show rightI 0 = true by decide] at H1
    have H2 := Lib.hid (fun w => rf_Right t w)
    rw [right_out ht] at H2
    clear ht
    go_enter Try.func13, Try.ntmps13
    go_wp2_with fail
    refine (H1.out _).mono ?_
    rintro e w' ⟨rfl, rfl⟩
    go_wp2_with fail
    refine (H2.out _).mono ?_
    rintro e w' ⟨rfl, rfl⟩
    go_wp2_with fail
    go_ret
    exact ⟨rfl, rfl⟩

set_option maxRecDepth 100000 in
set_option maxHeartbeats 4000000 in
theorem rfol_1 (t : Int) (w : World) : Calls Try.prog 13 #[.int .i64 1, .int .i64 t] w fun e w' => e = .returned (.bool (followsS 1 t)) ∧ w' = w := by
  revert t
  refine st_cases ?_ ?_ ?_ ?_ ?_ ?_ ?_ (fun t ht => ?_)
  · rw [show followsS 1 0 = false by decide]
    have H1 := Lib.hid (fun w => rf_Right 1 w)
    rw [show rightI 1 = true by decide] at H1
    have H2 := Lib.hid (fun w => rf_Right 0 w)
    rw [show rightI 0 = true by decide] at H2
    go_enter Try.func13, Try.ntmps13
    go_wp2_with fail
    refine (H1.out _).mono ?_
    rintro e w' ⟨rfl, rfl⟩
    go_wp2_with fail
    refine (H2.out _).mono ?_
    rintro e w' ⟨rfl, rfl⟩
    go_wp2_with fail
    go_ret
    exact ⟨rfl, rfl⟩
  · rw [show followsS 1 1 = true by decide]
    have H1 := Lib.hid (fun w => rf_Right 1 w)
    rw [show rightI 1 = true by decide] at H1
    have H2 := Lib.hid (fun w => rf_Right 1 w)
    rw [show rightI 1 = true by decide] at H2
    go_enter Try.func13, Try.ntmps13
    go_wp2_with fail
    refine (H1.out _).mono ?_
    rintro e w' ⟨rfl, rfl⟩
    go_wp2_with fail
    refine (H2.out _).mono ?_
    rintro e w' ⟨rfl, rfl⟩
    go_wp2_with fail
    go_ret
    exact ⟨rfl, rfl⟩
  · rw [show followsS 1 2 = true by decide]
    have H1 := Lib.hid (fun w => rf_Right 1 w)
    rw [show rightI 1 = true by decide] at H1
    have H2 := Lib.hid (fun w => rf_Right 2 w)
    rw [show rightI 2 = true by decide] at H2
    go_enter Try.func13, Try.ntmps13
    go_wp2_with fail
    refine (H1.out _).mono ?_
    rintro e w' ⟨rfl, rfl⟩
    go_wp2_with fail
    refine (H2.out _).mono ?_
    rintro e w' ⟨rfl, rfl⟩
    go_wp2_with fail
    go_ret
    exact ⟨rfl, rfl⟩
  · rw [show followsS 1 3 = false by decide]
    have H1 := Lib.hid (fun w => rf_Right 1 w)
    rw [show rightI 1 = true by decide] at H1
    have H2 := Lib.hid (fun w => rf_Right 3 w)
    rw [show rightI 3 = true by decide] at H2
    go_enter Try.func13, Try.ntmps13
    go_wp2_with fail
    refine (H1.out _).mono ?_
    rintro e w' ⟨rfl, rfl⟩
    go_wp2_with fail
    refine (H2.out _).mono ?_
    rintro e w' ⟨rfl, rfl⟩
    go_wp2_with fail
    go_ret
    exact ⟨rfl, rfl⟩
  · rw [show followsS 1 4 = false by decide]
    have H1 := Lib.hid (fun w => rf_Right 1 w)
    rw [show rightI 1 = true by decide] at H1
    have H2 := Lib.hid (fun w => rf_Right 4 w)
    rw [show rightI 4 = true by decide] at H2
    go_enter Try.func13, Try.ntmps13
    go_wp2_with fail
    refine (H1.out _).mono ?_
    rintro e w' ⟨rfl, rfl⟩
    go_wp2_with fail
    refine (H2.out _).mono ?_
    rintro e w' ⟨rfl, rfl⟩
    go_wp2_with fail
    go_ret
    exact ⟨rfl, rfl⟩
  · rw [show followsS 1 5 = false by decide]
    have H1 := Lib.hid (fun w => rf_Right 1 w)
    rw [show rightI 1 = true by decide] at H1
    have H2 := Lib.hid (fun w => rf_Right 5 w)
    rw [show rightI 5 = true by decide] at H2
    go_enter Try.func13, Try.ntmps13
    go_wp2_with fail
    refine (H1.out _).mono ?_
    rintro e w' ⟨rfl, rfl⟩
    go_wp2_with fail
    refine (H2.out _).mono ?_
    rintro e w' ⟨rfl, rfl⟩
    go_wp2_with fail
    go_ret
    exact ⟨rfl, rfl⟩
  · rw [show followsS 1 6 = true by decide]
    have H1 := Lib.hid (fun w => rf_Right 1 w)
    rw [show rightI 1 = true by decide] at H1
    have H2 := Lib.hid (fun w => rf_Right 6 w)
    rw [show rightI 6 = true by decide] at H2
    go_enter Try.func13, Try.ntmps13
    go_wp2_with fail
    refine (H1.out _).mono ?_
    rintro e w' ⟨rfl, rfl⟩
    go_wp2_with fail
    refine (H2.out _).mono ?_
    rintro e w' ⟨rfl, rfl⟩
    go_wp2_with fail
    go_ret
    exact ⟨rfl, rfl⟩
  · rw [follows_out' ht]
    have H1 := Lib.hid (fun w => rf_Right 1 w)
    rw [show rightI 1 = true by decide] at H1
    have H2 := Lib.hid (fun w => rf_Right t w)
    rw [right_out ht] at H2
    clear ht
    go_enter Try.func13, Try.ntmps13
    go_wp2_with fail
    refine (H1.out _).mono ?_
    rintro e w' ⟨rfl, rfl⟩
    go_wp2_with fail
    refine (H2.out _).mono ?_
    rintro e w' ⟨rfl, rfl⟩
    go_wp2_with fail
    go_ret
    exact ⟨rfl, rfl⟩

set_option maxRecDepth 100000 in
set_option maxHeartbeats 4000000 in
theorem rfol_2 (t : Int) (w : World) : Calls Try.prog 13 #[.int .i64 2, .int .i64 t] w fun e w' => e = .returned (.bool (followsS 2 t)) ∧ w' = w := by
  revert t
  refine st_cases ?_ ?_ ?_ ?_ ?_ ?_ ?_ (fun t ht => ?_)
  · rw [show followsS 2 0 = false by decide]
    have H1 := Lib.hid (fun w => rf_Right 2 w)
    rw [show rightI 2 = true by decide] at H1
    have H2 := Lib.hid (fun w => rf_Right 0 w)
    rw [show rightI 0 = true by decide] at H2
    go_enter Try.func13, Try.ntmps13
    go_wp2_with fail
    refine (H1.out _).mono ?_
    rintro e w' ⟨rfl, rfl⟩
    go_wp2_with fail
    refine (H2.out _).mono ?_
    rintro e w' ⟨rfl, rfl⟩
    go_wp2_with fail
    go_ret
    exact ⟨rfl, rfl⟩
  · rw [show followsS 2 1 = false by decide]
    have H1 := Lib.hid (fun w => rf_Right 2 w)
    rw [show rightI 2 = true by decide] at H1
    have H2 := Lib.hid (fun w => rf_Right 1 w)
    rw [show rightI 1 = true by decide] at H2
    go_enter Try.func13, Try.ntmps13
    go_wp2_with fail
    refine (H1.out _).mono ?_
    rintro e w' ⟨rfl, rfl⟩
    go_wp2_with fail
    refine (H2.out _).mono ?_
    rintro e w' ⟨rfl, rfl⟩
    go_wp2_with fail
    go_ret
    exact ⟨rfl, rfl⟩
  · rw [show followsS 2 2 = true by decide]
    have H1 := Lib.hid (fun w => rf_Right 2 w)
    rw [show rightI 2 = true by decide] at H1
    have H2 := Lib.hid (fun w => rf_Right 2 w)
    rw [show rightI 2 = true by decide] at H2
    go_enter Try.func13, Try.ntmps13
    go_wp2_with fail
    refine (H1.out _).mono ?_
    rintro e w' ⟨rfl, rfl⟩
    go_wp2_with fail
    refine (H2.out _).mono ?_
    rintro e w' ⟨rfl, rfl⟩
    go_wp2_with fail
    go_ret
    exact ⟨rfl, rfl⟩
  · rw [show followsS 2 3 = true by decide]
    have H1 := Lib.hid (fun w => rf_Right 2 w)
    rw [show rightI 2 = true by decide] at H1
    have H2 := Lib.hid (fun w => rf_Right 3 w)
    rw [show rightI 3 = true by decide] at H2
    go_enter Try.func13, Try.ntmps13
    go_wp2_with fail
    refine (H1.out _).mono ?_
    rintro e w' ⟨rfl, rfl⟩
    go_wp2_with fail
    refine (H2.out _).mono ?_
    rintro e w' ⟨rfl, rfl⟩
    go_wp2_with fail
    go_ret
    exact ⟨rfl, rfl⟩
  · rw [show followsS 2 4 = true by decide]
    have H1 := Lib.hid (fun w => rf_Right 2 w)
    rw [show rightI 2 = true by decide] at H1
    have H2 := Lib.hid (fun w => rf_Right 4 w)
    rw [show rightI 4 = true by decide] at H2
    go_enter Try.func13, Try.ntmps13
    go_wp2_with fail
    refine (H1.out _).mono ?_
    rintro e w' ⟨rfl, rfl⟩
    go_wp2_with fail
    refine (H2.out _).mono ?_
    rintro e w' ⟨rfl, rfl⟩
    go_wp2_with fail
    go_ret
    exact ⟨rfl, rfl⟩
  · rw [show followsS 2 5 = false by decide]
    have H1 := Lib.hid (fun w => rf_Right 2 w)
    rw [show rightI 2 = true by decide] at H1
    have H2 := Lib.hid (fun w => rf_Right 5 w)
    rw [show rightI 5 = true by decide] at H2
    go_enter Try.func13, Try.ntmps13
    go_wp2_with fail
    refine (H1.out _).mono ?_
    rintro e w' ⟨rfl, rfl⟩
    go_wp2_with fail
    refine (H2.out _).mono ?_
    rintro e w' ⟨rfl, rfl⟩
    go_wp2_with fail
    go_ret
    exact ⟨rfl, rfl⟩
  · rw [show followsS 2 6 = true by decide]
    have H1 := Lib.hid (fun w => rf_Right 2 w)
    rw [show rightI 2 = true by decide] at H1
    have H2 := Lib.hid (fun w => rf_Right 6 w)
    rw [show rightI 6 = true by decide] at H2
    go_enter Try.func13, Try.ntmps13
    go_wp2_with fail
    refine (H1.out _).mono ?_
    rintro e w' ⟨rfl, rfl⟩
    go_wp2_with fail
    refine (H2.out _).mono ?_
    rintro e w' ⟨rfl, rfl⟩
    go_wp2_with fail
    go_ret
    exact ⟨rfl, rfl⟩
  · rw [follows_out' ht]
    have H1 := Lib.hid (fun w => rf_Right 2 w)
    rw [show rightI 2 = true by decide] at H1
    have H2 := Lib.hid (fun w => rf_Right t w)
    rw [right_out ht] at H2
    clear ht
    go_enter Try.func13, Try.ntmps13
    go_wp2_with fail
    refine (H1.out _).mono ?_
    rintro e w' ⟨rfl, rfl⟩
    go_wp2_with fail
    refine (H2.out _).mono ?_
    rintro e w' ⟨rfl, rfl⟩
    go_wp2_with fail
    go_ret
    exact ⟨rfl, rfl⟩

set_option maxRecDepth 100000 in
set_option maxHeartbeats 4000000 in
theorem rfol_3 (t : Int) (w : World) : Calls Try.prog 13 #[.int .i64 3, .int .i64 t] w fun e w' => e = .returned (.bool (followsS 3 t)) ∧ w' = w := by
  revert t
  refine st_cases ?_ ?_ ?_ ?_ ?_ ?_ ?_ (fun t ht => ?_)
  · rw [show followsS 3 0 = false by decide]
    have H1 := Lib.hid (fun w => rf_Right 3 w)
    rw [show rightI 3 = true by decide] at H1
    have H2 := Lib.hid (fun w => rf_Right 0 w)
    rw [show rightI 0 = true by decide] at H2
    go_enter Try.func13, Try.ntmps13
    go_wp2_with fail
    refine (H1.out _).mono ?_
    rintro e w' ⟨rfl, rfl⟩
    go_wp2_with fail
    refine (H2.out _).mono ?_
    rintro e w' ⟨rfl, rfl⟩
    go_wp2_with fail
    go_ret
    exact ⟨rfl, rfl⟩
  · rw [show followsS 3 1 = false by decide]
    have H1 := Lib.hid (fun w => rf_Right 3 w)
    rw [show rightI 3 = true by decide] at H1
    have H2 := Lib.hid (fun w => rf_Right 1 w)
    rw [show rightI 1 = true by decide] at H2
    go_enter Try.func13, Try.ntmps13
    go_wp2_with fail
    refine (H1.out _).mono ?_
    rintro e w' ⟨rfl, rfl⟩
    go_wp2_with fail
    refine (H2.out _).mono ?_
    rintro e w' ⟨rfl, rfl⟩
    go_wp2_with fail
    go_ret
    exact ⟨rfl, rfl⟩
  · rw [show followsS 3 2 = false by decide]
    have H1 := Lib.hid (fun w => rf_Right 3 w)
    rw [show rightI 3 = true by decide] at H1
    have H2 := Lib.hid (fun w => rf_Right 2 w)
    rw [show rightI 2 = true by decide] at H2
    go_enter Try.func13, Try.ntmps13
    go_wp2_with fail
    refine (H1.out _).mono ?_
    rintro e w' ⟨rfl, rfl⟩
    go_wp2_with fail
    refine (H2.out _).mono ?_
    rintro e w' ⟨rfl, rfl⟩
    go_wp2_with fail
    go_ret
    exact ⟨rfl, rfl⟩
  · rw [show followsS 3 3 = true by decide]
    have H1 := Lib.hid (fun w => rf_Right 3 w)
    rw [show rightI 3 = true by decide] at H1
    have H2 := Lib.hid (fun w => rf_Right 3 w)
    rw [show rightI 3 = true by decide] at H2
    go_enter Try.func13, Try.ntmps13
    go_wp2_with fail
    refine (H1.out _).mono ?_
    rintro e w' ⟨rfl, rfl⟩
    go_wp2_with fail
    refine (H2.out _).mono ?_
    rintro e w' ⟨rfl, rfl⟩
    go_wp2_with fail
    go_ret
    exact ⟨rfl, rfl⟩
  · rw [show followsS 3 4 = true by decide]
    have H1 := Lib.hid (fun w => rf_Right 3 w)
    rw [show rightI 3 = true by decide] at H1
    have H2 := Lib.hid (fun w => rf_Right 4 w)
    rw [show rightI 4 = true by decide] at H2
    go_enter Try.func13, Try.ntmps13
    go_wp2_with fail
    refine (H1.out _).mono ?_
    rintro e w' ⟨rfl, rfl⟩
    go_wp2_with fail
    refine (H2.out _).mono ?_
    rintro e w' ⟨rfl, rfl⟩
    go_wp2_with fail
    go_ret
    exact ⟨rfl, rfl⟩
  · rw [show followsS 3 5 = false by decide]
    have H1 := Lib.hid (fun w => rf_Right 3 w)
    rw [show rightI 3 = true by decide] at H1
    have H2 := Lib.hid (fun w => rf_Right 5 w)
    rw [show rightI 5 = true by decide] at H2
    go_enter Try.func13, Try.ntmps13
    go_wp2_with fail
    refine (H1.out _).mono ?_
    rintro e w' ⟨rfl, rfl⟩
    go_wp2_with fail
    refine (H2.out _).mono ?_
    rintro e w' ⟨rfl, rfl⟩
    go_wp2_with fail
    go_ret
    exact ⟨rfl, rfl⟩
  · rw [show followsS 3 6 = true by decide]
    have H1 := Lib.hid (fun w => rf_Right 3 w)
    rw [show rightI 3 = true by decide] at H1
    have H2 := Lib.hid (fun w => rf_Right 6 w)
    rw [show rightI 6 = true by decide] at H2
    go_enter Try.func13, Try.ntmps13
    go_wp2_with fail
    refine (H1.out _).mono ?_
    rintro e w' ⟨rfl, rfl⟩
    go_wp2_with fail
    refine (H2.out _).mono ?_
    rintro e w' ⟨rfl, rfl⟩
    go_wp2_with fail
    go_ret
    exact ⟨rfl, rfl⟩
  · rw [follows_out' ht]
    have H1 := Lib.hid (fun w => rf_Right 3 w)
    rw [show rightI 3 = true by decide] at H1
    have H2 := Lib.hid (fun w => rf_Right t w)
    rw [right_out ht] at H2
    clear ht
    go_enter Try.func13, Try.ntmps13
    go_wp2_with fail
    refine (H1.out _).mono ?_
    rintro e w' ⟨rfl, rfl⟩
    go_wp2_with fail
    refine (H2.out _).mono ?_
    rintro e w' ⟨rfl, rfl⟩
    go_wp2_with fail
    go_ret
    exact ⟨rfl, rfl⟩

set_option maxRecDepth 100000 in
set_option maxHeartbeats 4000000 in
theorem rfol_4 (t : Int) (w : World) : Calls Try.prog 13 #[.int .i64 4, .int .i64 t] w fun e w' => e = .returned (.bool (followsS 4 t)) ∧ w' = w := by
  revert t
  refine st_cases ?_ ?_ ?_ ?_ ?_ ?_ ?_ (fun t ht => ?_)
  · rw [show followsS 4 0 = false by decide]
    have H1 := Lib.hid (fun w => rf_Right 4 w)
    rw [show rightI 4 = true by decide] at H1
    have H2 := Lib.hid (fun w => rf_Right 0 w)
    rw [show rightI 0 = true by decide] at H2
    go_enter Try.func13, Try.ntmps13
    go_wp2_with fail
    refine (H1.out _).mono ?_
    rintro e w' ⟨rfl, rfl⟩
    go_wp2_with fail
    refine (H2.out _).mono ?_
    rintro e w' ⟨rfl, rfl⟩
    go_wp2_with fail
    go_ret
    exact ⟨rfl, rfl⟩
  · rw [show followsS 4 1 = false by decide]
    have H1 := Lib.hid (fun w => rf_Right 4 w)
    rw [show rightI 4 = true by decide] at H1
    have H2 := Lib.hid (fun w => rf_Right 1 w)
    rw [show rightI 1 = true by decide] at H2
    go_enter Try.func13, Try.ntmps13
    go_wp2_with fail
    refine (H1.out _).mono ?_
    rintro e w' ⟨rfl, rfl⟩
    go_wp2_with fail
    refine (H2.out _).mono ?_
    rintro e w' ⟨rfl, rfl⟩
    go_wp2_with fail
    go_ret
    exact ⟨rfl, rfl⟩
  · rw [show followsS 4 2 = false by decide]
    have H1 := Lib.hid (fun w => rf_Right 4 w)
    rw [show rightI 4 = true by decide] at H1
    have H2 := Lib.hid (fun w => rf_Right 2 w)
    rw [show rightI 2 = true by decide] at H2
    go_enter Try.func13, Try.ntmps13
    go_wp2_with fail
    refine (H1.out _).mono ?_
    rintro e w' ⟨rfl, rfl⟩
    go_wp2_with fail
    refine (H2.out _).mono ?_
    rintro e w' ⟨rfl, rfl⟩
    go_wp2_with fail
    go_ret
    exact ⟨rfl, rfl⟩
  · rw [show followsS 4 3 = false by decide]
    have H1 := Lib.hid (fun w => rf_Right 4 w)
    rw [show rightI 4 = true by decide] at H1
    have H2 := Lib.hid (fun w => rf_Right 3 w)
    rw [show rightI 3 = true by decide] at H2
    go_enter Try.func13, Try.ntmps13
    go_wp2_with fail
    refine (H1.out _).mono ?_
    rintro e w' ⟨rfl, rfl⟩
    go_wp2_with fail
    refine (H2.out _).mono ?_
    rintro e w' ⟨rfl, rfl⟩
    go_wp2_with fail
    go_ret
    exact ⟨rfl, rfl⟩
  · rw [show followsS 4 4 = true by decide]
    have H1 := Lib.hid (fun w => rf_Right 4 w)
    rw [show rightI 4 = true by decide] at H1
    have H2 := Lib.hid (fun w => rf_Right 4 w)
    rw [show rightI 4 = true by decide] at H2
    go_enter Try.func13, Try.ntmps13
    go_wp2_with fail
    refine (H1.out _).mono ?_
    rintro e w' ⟨rfl, rfl⟩
    go_wp2_with fail
    refine (H2.out _).mono ?_
    rintro e w' ⟨rfl, rfl⟩
    go_wp2_with fail
    go_ret
    exact ⟨rfl, rfl⟩
  · rw [show followsS 4 5 = true by decide]
    have H1 := Lib.hid (fun w => rf_Right 4 w)
    rw [show rightI 4 = true by decide] at H1
    have H2 := Lib.hid (fun w => rf_Right 5 w)
    rw [show rightI 5 = true by decide] at H2
    go_enter Try.func13, Try.ntmps13
    go_wp2_with fail
    refine (H1.out _).mono ?_
    rintro e w' ⟨rfl, rfl⟩
    go_wp2_with fail
    refine (H2.out _).mono ?_
    rintro e w' ⟨rfl, rfl⟩
    go_wp2_with fail
    go_ret
    exact ⟨rfl, rfl⟩
  · rw [show followsS 4 6 = true by decide]
    have H1 := Lib.hid (fun w => rf_Right 4 w)
    rw [show rightI 4 = true by decide] at H1
    have H2 := Lib.hid (fun w => rf_Right 6 w)
    rw [show rightI 6 = true by decide] at H2
    go_enter Try.func13, Try.ntmps13
    go_wp2_with fail
    refine (H1.out _).mono ?_
    rintro e w' ⟨rfl, rfl⟩
    go_wp2_with fail
    refine (H2.out _).mono ?_
    rintro e w' ⟨rfl, rfl⟩
    go_wp2_with fail
    go_ret
    exact ⟨rfl, rfl⟩
  · rw [follows_out' ht]
    have H1 := Lib.hid (fun w => rf_Right 4 w)
    rw [show rightI 4 = true by decide] at H1
    have H2 := Lib.hid (fun w => rf_Right t w)
    rw [right_out ht] at H2
    clear ht
    go_enter Try.func13, Try.ntmps13
    go_wp2_with fail
    refine (H1.out _).mono ?_
    rintro e w' ⟨rfl, rfl⟩
    go_wp2_with fail
    refine (H2.out _).mono ?_
    rintro e w' ⟨rfl, rfl⟩
    go_wp2_with fail
    go_ret
    exact ⟨rfl, rfl⟩

set_option maxRecDepth 100000 in
set_option maxHeartbeats 4000000 in
theorem rfol_5 (t : Int) (w : World) : Calls Try.prog 13 #[.int .i64 5, .int .i64 t] w fun e w' => e = .returned (.bool (followsS 5 t)) ∧ w' = w := by
  revert t
  refine st_cases ?_ ?_ ?_ ?_ ?_ ?_ ?_ (fun t ht => ?_)
  · rw [show followsS 5 0 = false by decide]
    have H1 := Lib.hid (fun w => rf_Right 5 w)
    rw [show rightI 5 = true by decide] at H1
    have H2 := Lib.hid (fun w => rf_Right 0 w)
    rw [show rightI 0 = true by decide] at H2
    go_enter Try.func13, Try.ntmps13
    go_wp2_with fail
    refine (H1.out _).mono ?_
    rintro e w' ⟨rfl, rfl⟩
    go_wp2_with fail
    refine (H2.out _).mono ?_
    rintro e w' ⟨rfl, rfl⟩
    go_wp2_with fail
    go_ret
    exact ⟨rfl, rfl⟩
  · rw [show followsS 5 1 = false by decide]
    have H1 := Lib.hid (fun w => rf_Right 5 w)
    rw [show rightI 5 = true by decide] at H1
    have H2 := Lib.hid (fun w => rf_Right 1 w)
    rw [show rightI 1 = true by decide] at H2
    go_enter Try.func13, Try.ntmps13
    go_wp2_with fail
    refine (H1.out _).mono ?_
    rintro e w' ⟨rfl, rfl⟩
    go_wp2_with fail
    refine (H2.out _).mono ?_
    rintro e w' ⟨rfl, rfl⟩
    go_wp2_with fail
    go_ret
    exact ⟨rfl, rfl⟩
  · rw [show followsS 5 2 = true by decide]
    have H1 := Lib.hid (fun w => rf_Right 5 w)
    rw [show rightI 5 = true by decide] at H1
    have H2 := Lib.hid (fun w => rf_Right 2 w)
    rw [show rightI 2 = true by decide] at H2
    go_enter Try.func13, Try.ntmps13
    go_wp2_with fail
    refine (H1.out _).mono ?_
    rintro e w' ⟨rfl, rfl⟩
    go_wp2_with fail
    refine (H2.out _).mono ?_
    rintro e w' ⟨rfl, rfl⟩
    go_wp2_with fail
    go_ret
    exact ⟨rfl, rfl⟩
  · rw [show followsS 5 3 = false by decide]
    have H1 := Lib.hid (fun w => rf_Right 5 w)
    rw [show rightI 5 = true by decide] at H1
    have H2 := Lib.hid (fun w => rf_Right 3 w)
    rw [show rightI 3 = true by decide] at H2
    go_enter Try.func13, Try.ntmps13
    go_wp2_with fail
    refine (H1.out _).mono ?_
    rintro e w' ⟨rfl, rfl⟩
    go_wp2_with fail
    refine (H2.out _).mono ?_
    rintro e w' ⟨rfl, rfl⟩
    go_wp2_with fail
    go_ret
    exact ⟨rfl, rfl⟩
  · rw [show followsS 5 4 = false by decide]
    have H1 := Lib.hid (fun w => rf_Right 5 w)
    rw [show rightI 5 = true by decide] at H1
    have H2 := Lib.hid (fun w => rf_Right 4 w)
    rw [show rightI 4 = true by decide] at H2
    go_enter Try.func13, Try.ntmps13
    go_wp2_with fail
    refine (H1.out _).mono ?_
    rintro e w' ⟨rfl, rfl⟩
    go_wp2_with fail
    refine (H2.out _).mono ?_
    rintro e w' ⟨rfl, rfl⟩
    go_wp2_with fail
    go_ret
    exact ⟨rfl, rfl⟩
  · rw [show followsS 5 5 = true by decide]
    have H1 := Lib.hid (fun w => rf_Right 5 w)
    rw [show rightI 5 = true by decide] at H1
    have H2 := Lib.hid (fun w => rf_Right 5 w)
    rw [show rightI 5 = true by decide] at H2
    go_enter Try.func13, Try.ntmps13
    go_wp2_with fail
    refine (H1.out _).mono ?_
    rintro e w' ⟨rfl, rfl⟩
    go_wp2_with fail
    refine (H2.out _).mono ?_
    rintro e w' ⟨rfl, rfl⟩
    go_wp2_with fail
    go_ret
    exact ⟨rfl, rfl⟩
  · rw [show followsS 5 6 = true by decide]
    have H1 := Lib.hid (fun w => rf_Right 5 w)
    rw [show rightI 5 = true by decide] at H1
    have H2 := Lib.hid (fun w => rf_Right 6 w)
    rw [show rightI 6 = true by decide] at H2
    go_enter Try.func13, Try.ntmps13
    go_wp2_with fail
    refine (H1.out _).mono ?_
    rintro e w' ⟨rfl, rfl⟩
    go_wp2_with fail
    refine (H2.out _).mono ?_
    rintro e w' ⟨rfl, rfl⟩
    go_wp2_with fail
    go_ret
    exact ⟨rfl, rfl⟩
  · rw [follows_out' ht]
    have H1 := Lib.hid (fun w => rf_Right 5 w)
    rw [show rightI 5 = true by decide] at H1
    have H2 := Lib.hid (fun w => rf_Right t w)
    rw [right_out ht] at H2
    clear ht
    go_enter Try.func13, Try.ntmps13
    go_wp2_with fail
    refine (H1.out _).mono ?_
    rintro e w' ⟨rfl, rfl⟩
    go_wp2_with fail
    refine (H2.out _).mono ?_
    rintro e w' ⟨rfl, rfl⟩
    go_wp2_with fail
    go_ret
    exact ⟨rfl, rfl⟩

set_option maxRecDepth 100000 in
set_option maxHeartbeats 4000000 in
theorem rfol_6 (t : Int) (w : World) : Calls Try.prog 13 #[.int .i64 6, .int .i64 t] w fun e w' => e = .returned (.bool (followsS 6 t)) ∧ w' = w := by
  revert t
  refine st_cases ?_ ?_ ?_ ?_ ?_ ?_ ?_ (fun t ht => ?_)
  · rw [show followsS 6 0 = true by decide]
    have H1 := Lib.hid (fun w => rf_Right 6 w)
    rw [show rightI 6 = true by decide] at H1
    have H2 := Lib.hid (fun w => rf_Right 0 w)
    rw [show rightI 0 = true by decide] at H2
    go_enter Try.func13, Try.ntmps13
    go_wp2_with fail
    refine (H1.out _).mono ?_
    rintro e w' ⟨rfl, rfl⟩
    go_wp2_with fail
    refine (H2.out _).mono ?_
    rintro e w' ⟨rfl, rfl⟩
    go_wp2_with fail
    go_ret
    exact ⟨rfl, rfl⟩
  · rw [show followsS 6 1 = false by decide]
    have H1 := Lib.hid (fun w => rf_Right 6 w)
    rw [show rightI 6 = true by decide] at H1
    have H2 := Lib.hid (fun w => rf_Right 1 w)
    rw [show rightI 1 = true by decide] at H2
    go_enter Try.func13, Try.ntmps13
    go_wp2_with fail
    refine (H1.out _).mono ?_
    rintro e w' ⟨rfl, rfl⟩
    go_wp2_with fail
    refine (H2.out _).mono ?_
    rintro e w' ⟨rfl, rfl⟩
    go_wp2_with fail
    go_ret
    exact ⟨rfl, rfl⟩
  · rw [show followsS 6 2 = false by decide]
    have H1 := Lib.hid (fun w => rf_Right 6 w)
    rw [show rightI 6 = true by decide] at H1
    have H2 := Lib.hid (fun w => rf_Right 2 w)
    rw [show rightI 2 = true by decide] at H2
    go_enter Try.func13, Try.ntmps13
    go_wp2_with fail
    refine (H1.out _).mono ?_
    rintro e w' ⟨rfl, rfl⟩
    go_wp2_with fail
    refine (H2.out _).mono ?_
    rintro e w' ⟨rfl, rfl⟩
    go_wp2_with fail
    go_ret
    exact ⟨rfl, rfl⟩
  · rw [show followsS 6 3 = true by decide]
    have H1 := Lib.hid (fun w => rf_Right 6 w)
    rw [show rightI 6 = true by decide] at H1
    have H2 := Lib.hid (fun w => rf_Right 3 w)
    rw [show rightI 3 = true by decide] at H2
    go_enter Try.func13, Try.ntmps13
    go_wp2_with fail
    refine (H1.out _).mono ?_
    rintro e w' ⟨rfl, rfl⟩
    go_wp2_with fail
    refine (H2.out _).mono ?_
    rintro e w' ⟨rfl, rfl⟩
    go_wp2_with fail
    go_ret
    exact ⟨rfl, rfl⟩
  · rw [show followsS 6 4 = false by decide]
    have H1 := Lib.hid (fun w => rf_Right 6 w)
    rw [show rightI 6 = true by decide] at H1
    have H2 := Lib.hid (fun w => rf_Right 4 w)
    rw [show rightI 4 = true by decide] at H2
    go_enter Try.func13, Try.ntmps13
    go_wp2_with fail
    refine (H1.out _).mono ?_
    rintro e w' ⟨rfl, rfl⟩
    go_wp2_with fail
    refine (H2.out _).mono ?_
    rintro e w' ⟨rfl, rfl⟩
    go_wp2_with fail
    go_ret
    exact ⟨rfl, rfl⟩
  · rw [show followsS 6 5 = false by decide]
    have H1 := Lib.hid (fun w => rf_Right 6 w)
    rw [show rightI 6 = true by decide] at H1
    have H2 := Lib.hid (fun w => rf_Right 5 w)
    rw [show rightI 5 = true by decide] at H2
    go_enter Try.func13, Try.ntmps13
    go_wp2_with fail
    refine (H1.out _).mono ?_
    rintro e w' ⟨rfl, rfl⟩
    go_wp2_with fail
    refine (H2.out _).mono ?_
    rintro e w' ⟨rfl, rfl⟩
    go_wp2_with fail
    go_ret
    exact ⟨rfl, rfl⟩
  · rw [show followsS 6 6 = true by decide]
    have H1 := Lib.hid (fun w => rf_Right 6 w)
    rw [show rightI 6 = true by decide] at H1
    have H2 := Lib.hid (fun w => rf_Right 6 w)
    rw [show rightI 6 = true by decide] at H2
    go_enter Try.func13, Try.ntmps13
    go_wp2_with fail
    refine (H1.out _).mono ?_
    rintro e w' ⟨rfl, rfl⟩
    go_wp2_with fail
    refine (H2.out _).mono ?_
    rintro e w' ⟨rfl, rfl⟩
    go_wp2_with fail
    go_ret
    exact ⟨rfl, rfl⟩
  · rw [follows_out' ht]
    have H1 := Lib.hid (fun w => rf_Right 6 w)
    rw [show rightI 6 = true by decide] at H1
    have H2 := Lib.hid (fun w => rf_Right t w)
    rw [right_out ht] at H2
    clear ht
    go_enter Try.func13, Try.ntmps13
    go_wp2_with fail
    refine (H1.out _).mono ?_
    rintro e w' ⟨rfl, rfl⟩
    go_wp2_with fail
    refine (H2.out _).mono ?_
    rintro e w' ⟨rfl, rfl⟩
    go_wp2_with fail
    go_ret
    exact ⟨rfl, rfl⟩

set_option maxRecDepth 100000 in
set_option maxHeartbeats 4000000 in
theorem rfol_o (s t : Int) (w : World) (hs : s < 0 ∨ 6 < s) : Calls Try.prog 13 #[.int .i64 s, .int .i64 t] w fun e w' => e = .returned (.bool (followsS s t)) ∧ w' = w := by
  rw [follows_out hs]
  have H1 := Lib.hid (fun w => rf_Right s w)
  rw [right_out hs] at H1
  have H2 := Lib.hid (fun w => rf_Right t w)
  clear hs
  generalize rightI t = b at *
  go_enter Try.func13, Try.ntmps13
  go_wp2_with fail
  refine (H1.out _).mono ?_
  rintro e w' ⟨rfl, rfl⟩
  go_wp2_with fail
  refine (H2.out _).mono ?_
  rintro e w' ⟨rfl, rfl⟩
  go_wp2_with fail
  go_ret
  exact ⟨rfl, rfl⟩

theorem rf_Follows (s t : Int) (w : World) : Calls Try.prog 13 #[.int .i64 s, .int .i64 t] w fun e w' => e = .returned (.bool (followsS s t)) ∧ w' = w := by
  revert s
  exact st_cases (rfol_0 t w) (rfol_1 t w) (rfol_2 t w) (rfol_3 t w) (rfol_4 t w) (rfol_5 t w) (rfol_6 t w) (fun s hs => rfol_o s t w hs)
end Go.Proofs.Ytkgdfbiokgggmaa
