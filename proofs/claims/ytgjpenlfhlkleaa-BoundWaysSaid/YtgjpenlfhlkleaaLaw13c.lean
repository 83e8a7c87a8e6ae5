/- BoundWays over this translation: the walk. -/
import Derived.Test.YtgjpenlfhlkleaaLaw13b
set_option linter.unusedVariables false
namespace Go.Proofs.Ytgjpenlfhlkleaa
open Go.RowKit Pl

theorem shareS_down (x p q : Nat) (hx : x ≤ 18446744073709551615) (hq : 0 < q) (hp : p ≤ q) : shareS x p q ≤ x := by
  unfold shareS
  rw [if_neg (by omega)]
  have h : x * p / q ≤ x := Nat.div_le_of_le_mul (by rw [Nat.mul_comm q x]; exact Nat.mul_le_mul_left x hp)
  omega
theorem leftS_down (x : Nat) (hx : x ≤ 18446744073709551615) : leftS x ≤ x := shareS_down x 7 10 hx (by omega) (by omega)

/-- What a loss, what is pulled, what is pushed leave, of numbers. -/
theorem ways (hi lo bw x0 x1 x2 : Nat) (hb : BS.ok ⟨hi, lo, bw⟩) (h1 : x1 ≤ 18446744073709551615) (h2 : x2 ≤ 18446744073709551615) :
    (max x0 (leftS (orS lo x2)) ≤ max x0 (orS lo x2) ∧ max x1 (leftS (orS bw x1)) ≤ max x1 bw) ∧ hi ≤ (if hi = 18446744073709551615 then hi else min (addS hi x0) 18446744073709551614) ∧ max x0 (leftS x1) ≤ max x0 x1 := by
  have a1 := leftS_down (orS lo x2) (orS_le hb.lo h2)
  have a2 := leftS_down (orS bw x1) (orS_le hb.bw h1)
  have a3 := leftS_down x1 h1
  have a4 : orS bw x1 ≤ max x1 bw := by unfold orS; split <;> omega
  have a5 : hi ≤ 18446744073709551615 := hb.hi
  refine ⟨⟨by omega, by omega⟩, ?_, by omega⟩
  unfold addS
  split <;> omega

/-- The boxes, and the short bounds in a block of their own. -/
structure TfI (W : World) (b : BS) (x0 x1 x2 n : Nat) (w : World) : Prop where
  t : TwI W b x0 x1 x2 w
  bf : Blk w n 24 #[.int .u64 (b.hi : Int), .int .u64 18446744073709551615, .int .u64 18446744073709551615]
theorem TfI.to {W w w' : World} {b : BS} {x0 x1 x2 m : Nat} (h : TfI W b x0 x1 x2 m w) (k : Below w.heap.size w w') : TfI W b x0 x1 x2 m w' := ⟨h.t.to k, h.bf.keep k⟩
theorem TfI.drew {W w : World} {b : BS} {x0 x1 x2 m : Nat} (h : TfI W b x0 x1 x2 m w) : TfI W b x0 x1 x2 m w.drew := h.to ((Drawn.drew w).below _)
/-- The seven cells that the last region reads. -/
def Seven (W : World) (hi lo bw x0 x1 x2 m : Nat) (w : World) : Prop :=
  w.cell? ⟨W.heap.size, 0, none⟩ = some (.int .u64 (hi : Int)) ∧ w.cell? ⟨W.heap.size, 1, none⟩ = some (.int .u64 (lo : Int)) ∧ w.cell? ⟨W.heap.size, 2, none⟩ = some (.int .u64 (bw : Int)) ∧
  w.cell? ⟨W.heap.size + 1, 0, none⟩ = some (.int .u64 (x0 : Int)) ∧
  w.cell? ⟨m, 0, none⟩ = some (.int .u64 (hi : Int)) ∧ w.cell? ⟨m, 1, none⟩ = some (.int .u64 18446744073709551615) ∧ w.cell? ⟨m, 2, none⟩ = some (.int .u64 18446744073709551615) ∧ Hid (TfI W ⟨hi, lo, bw⟩ x0 x1 x2 m w)
theorem TfI.seven {W w : World} {hi lo bw x0 x1 x2 m : Nat} (h : TfI W ⟨hi, lo, bw⟩ x0 x1 x2 m w) : Seven W hi lo bw x0 x1 x2 m w :=
  ⟨h.t.bb.cell rfl, h.t.bb.cell rfl, h.t.bb.cell rfl, h.t.bx.cell rfl, h.bf.cell rfl, h.bf.cell rfl, h.bf.cell rfl, Lib.hid h⟩
theorem seven_keep {W w w' : World} {hi lo bw x0 x1 x2 m : Nat} (h : Hid (TfI W ⟨hi, lo, bw⟩ x0 x1 x2 m w)) (k : Below w.heap.size w w') : Seven W hi lo bw x0 x1 x2 m w' := (h.out.to k).seven

set_option maxRecDepth 100000 in
set_option maxHeartbeats 8000000 in
theorem BoundWays_walk (b : BS) (x0 x1 x2 : Nat) (W : World) (hb : b.ok) (hx : x0 ≤ 18446744073709551615 ∧ x1 ≤ 18446744073709551615 ∧ x2 ≤ 18446744073709551615) :
    Calls Try.prog 4 #[.agg b.cells, .agg #[.int .u64 (x0 : Int), .int .u64 (x1 : Int), .int .u64 (x2 : Int)]] W fun e w' => e = .returned (.bool true) ∧ Below W.heap.size W w' := by
  obtain ⟨h0, h1, h2⟩ := hx
  obtain ⟨hi, lo, bw⟩ := b
  have HA := Lib.hid alive13
  have I0 := Lib.hid (TwI.start W ⟨hi, lo, bw⟩ x0 x1 x2)
  have L1 := Lib.hid (fun w => bd_Lose ⟨hi, lo, bw⟩ x0 x1 x2 w hb h0 h1 h2)
  have P1 := Lib.hid (fun w => bd_Pull ⟨hi, lo, bw⟩ x0 x1 w h0 h1)
  have U1 := Lib.hid (fun w => bd_Push ⟨hi, lo, bw⟩ x0 w hb h0)
  have S1 := Lib.hid (fun w => bd_Short ⟨hi, lo, bw⟩ w)
  have C1 : Hid (∀ w, Calls Try.prog 14 #[.agg (BS.cells ⟨hi, lo, bw⟩), .slice none 0 0] w fun e w' => e = .returned (.int .u64 (BS.cap ⟨hi, lo, bw⟩ [] : Int)) ∧ Below w.heap.size w w') := Lib.hid (fun w => bd_Cap ⟨hi, lo, bw⟩ none 0 [] w (by simp) (NumsR.none _ _))
  have R1 := Lib.hid (fun w => bd_Room ⟨hi, lo, bw⟩ w hb)
  have M1 := Lib.hid (fun w => bd_Limit ⟨hi, lo, bw⟩ x0 w)
  obtain ⟨⟨k1, k2⟩, k3, k4⟩ := ways hi lo bw x0 x1 x2 hb h1 h2
  have k5 : x0 ≤ max x0 (leftS (orS lo x2)) := by omega
  have k6 : x1 ≤ max x1 (leftS (orS bw x1)) := by omega
  have k7 : x0 ≤ max x0 (leftS x1) := by omega
  have k8 : BS.room ⟨hi, lo, bw⟩ ≤ hi := by
    unfold BS.room; dsimp only
    split
    · omega
    · exact shareS_down hi 85 100 hb.hi (by omega) (by omega)
  have k9 : BS.cap ⟨hi, lo, bw⟩ [] ≤ hi ∧ BS.cap ⟨hi, lo, bw⟩ [] ≤ lo := by unfold BS.cap mins; simp only [List.foldl_nil]; omega
  have k10 : BS.limit ⟨hi, lo, bw⟩ x0 ≤ x0 := by unfold BS.limit; omega
  have HO : Hid (orS lo x2 = if lo = 18446744073709551615 then x2 else lo) := Lib.hid rfl
  unfold BS.lose BS.pull BS.push BS.short BS.cells at *
  dsimp only at *
  generalize max x0 (leftS (orS lo x2)) = cl at *
  generalize max x1 (leftS (orS bw x1)) = cb at *
  generalize max x0 (leftS x1) = eh at *
  generalize (if hi = 18446744073709551615 then hi else min (addS hi x0) 18446744073709551614) = dh at *
  generalize BS.room ⟨hi, lo, bw⟩ = rm at *
  generalize BS.cap ⟨hi, lo, bw⟩ [] = cp at *
  generalize BS.limit ⟨hi, lo, bw⟩ x0 = lm at *
  generalize orS lo x2 = wv at *
  have q1 : decide ((cl : Int) ≤ max (x0 : Int) (wv : Int)) = true := decide_eq_true (by omega)
  have q2 : decide (cb < x1) = false := decide_eq_false (by omega)
  have q3 : decide (cl < x0) = false := decide_eq_false (by omega)
  have q4 : decide (max (x1 : Int) (bw : Int) < (cb : Int)) = false := decide_eq_false (by omega)
  have q5 : decide (dh < hi) = false := decide_eq_false (by omega)
  have q6 : decide (eh < x0) = false := decide_eq_false (by omega)
  have q7 : decide (max (x0 : Int) (x1 : Int) < (eh : Int)) = false := decide_eq_false (by omega)
  have q8 : decide (rm ≤ hi) = true := decide_eq_true (by omega)
  have q9 : decide (cp ≤ hi) = true := decide_eq_true (by omega)
  have q10 : decide (cp ≤ lo) = true := decide_eq_true (by omega)
  have q11 : decide (lm ≤ x0) = true := decide_eq_true (by omega)
  clear h0 h1 h2 hb k1 k2 k3 k4 k5 k6 k7 k8 k9 k10
  by_cases c : lo = 18446744073709551615
  · have t1 : ((lo : Int) == 18446744073709551615) = true := by rw [c]; rfl
    have o1 : wv = x2 := by rw [HO.out, if_pos c]
    rw [o1] at q1
    clear c HO o1 wv
    go_enter Try.func4, Try.ntmps4
    go_wp2_with fail
    refine (L1.out _).mono ?_
    rintro e w1 ⟨rfl, k⟩
    have I1 := Lib.hid ((I0.out.to k).to ((Below.refl _ _).alloc (Nat.le_refl _) (.cells #[.int .u64 (hi : Int), .int .u64 (cl : Int), .int .u64 (cb : Int)] 24)))
    have D1 := Lib.hid (Blk.new w1 24 #[.int .u64 (hi : Int), .int .u64 (cl : Int), .int .u64 (cb : Int)])
    clear k I0 L1
    have b0 := I1.out.bb.cell (i := 0) (v := .int .u64 (hi : Int)) rfl
    have b1 := I1.out.bb.cell (i := 1) (v := .int .u64 (lo : Int)) rfl
    have b2 := I1.out.bb.cell (i := 2) (v := .int .u64 (bw : Int)) rfl
    have z0 := I1.out.bx.cell (i := 0) (v := .int .u64 (x0 : Int)) rfl
    have z1 := I1.out.bx.cell (i := 1) (v := .int .u64 (x1 : Int)) rfl
    have z2 := I1.out.bx.cell (i := 2) (v := .int .u64 (x2 : Int)) rfl
    have c0 := D1.out.cell (i := 0) (v := .int .u64 (hi : Int)) rfl
    have c1 := D1.out.cell (i := 1) (v := .int .u64 (cl : Int)) rfl
    have c2 := D1.out.cell (i := 2) (v := .int .u64 (cb : Int)) rfl
    go_wp2_with fail
    refine (U1.out _).mono ?_
    rintro e w2 ⟨rfl, k⟩
    have I2 := Lib.hid ((I1.out.to k).to ((Below.refl _ _).alloc (Nat.le_refl _) (.cells #[.int .u64 (dh : Int), .int .u64 (lo : Int), .int .u64 (bw : Int)] 24)))
    have D2 := Lib.hid ((D1.out.keep k).alloc (.cells #[.int .u64 (dh : Int), .int .u64 (lo : Int), .int .u64 (bw : Int)] 24))
    have E1 := Lib.hid (Blk.new w2 24 #[.int .u64 (dh : Int), .int .u64 (lo : Int), .int .u64 (bw : Int)])
    clear b0 b1 b2 z0 z1 z2 c0 c1 c2
    clear k I1 U1 D1
    have b0 := I2.out.bb.cell (i := 0) (v := .int .u64 (hi : Int)) rfl
    have b1 := I2.out.bb.cell (i := 1) (v := .int .u64 (lo : Int)) rfl
    have b2 := I2.out.bb.cell (i := 2) (v := .int .u64 (bw : Int)) rfl
    have z0 := I2.out.bx.cell (i := 0) (v := .int .u64 (x0 : Int)) rfl
    have z1 := I2.out.bx.cell (i := 1) (v := .int .u64 (x1 : Int)) rfl
    have z2 := I2.out.bx.cell (i := 2) (v := .int .u64 (x2 : Int)) rfl
    go_wp2_with fail
    refine (P1.out _).mono ?_
    rintro e w3 ⟨rfl, k⟩
    have I3 := Lib.hid ((I2.out.to k).to ((Below.refl _ _).alloc (Nat.le_refl _) (.cells #[.int .u64 (eh : Int), .int .u64 (lo : Int), .int .u64 (bw : Int)] 24)))
    have D3 := Lib.hid ((D2.out.keep k).alloc (.cells #[.int .u64 (eh : Int), .int .u64 (lo : Int), .int .u64 (bw : Int)] 24))
    have E2 := Lib.hid ((E1.out.keep k).alloc (.cells #[.int .u64 (eh : Int), .int .u64 (lo : Int), .int .u64 (bw : Int)] 24))
    have F1 := Lib.hid (Blk.new w3 24 #[.int .u64 (eh : Int), .int .u64 (lo : Int), .int .u64 (bw : Int)])
    clear b0 b1 b2 z0 z1 z2
    clear k I2 P1 D2 E1
    have b0 := I3.out.bb.cell (i := 0) (v := .int .u64 (hi : Int)) rfl
    have b1 := I3.out.bb.cell (i := 1) (v := .int .u64 (lo : Int)) rfl
    have b2 := I3.out.bb.cell (i := 2) (v := .int .u64 (bw : Int)) rfl
    have z0 := I3.out.bx.cell (i := 0) (v := .int .u64 (x0 : Int)) rfl
    have z1 := I3.out.bx.cell (i := 1) (v := .int .u64 (x1 : Int)) rfl
    have z2 := I3.out.bx.cell (i := 2) (v := .int .u64 (x2 : Int)) rfl
    go_wp2_with fail
    refine (S1.out _).mono ?_
    rintro e w4 ⟨rfl, k⟩
    have I4 := Lib.hid ((I3.out.to k).to ((Below.refl _ _).alloc (Nat.le_refl _) (.cells #[.int .u64 (hi : Int), .int .u64 18446744073709551615, .int .u64 18446744073709551615] 24)))
    have D4 := Lib.hid ((D3.out.keep k).alloc (.cells #[.int .u64 (hi : Int), .int .u64 18446744073709551615, .int .u64 18446744073709551615] 24))
    have E3 := Lib.hid ((E2.out.keep k).alloc (.cells #[.int .u64 (hi : Int), .int .u64 18446744073709551615, .int .u64 18446744073709551615] 24))
    have F2 := Lib.hid ((F1.out.keep k).alloc (.cells #[.int .u64 (hi : Int), .int .u64 18446744073709551615, .int .u64 18446744073709551615] 24))
    have G1 := Lib.hid (Blk.new w4 24 #[.int .u64 (hi : Int), .int .u64 18446744073709551615, .int .u64 18446744073709551615])
    clear b0 b1 b2 z0 z1 z2
    clear k I3 S1 D3 E2 F1
    have b0 := I4.out.bb.cell (i := 0) (v := .int .u64 (hi : Int)) rfl
    have b1 := I4.out.bb.cell (i := 1) (v := .int .u64 (lo : Int)) rfl
    have b2 := I4.out.bb.cell (i := 2) (v := .int .u64 (bw : Int)) rfl
    have z0 := I4.out.bx.cell (i := 0) (v := .int .u64 (x0 : Int)) rfl
    have z1 := I4.out.bx.cell (i := 1) (v := .int .u64 (x1 : Int)) rfl
    have z2 := I4.out.bx.cell (i := 2) (v := .int .u64 (x2 : Int)) rfl
    have c0 := D4.out.cell (i := 0) (v := .int .u64 (hi : Int)) rfl
    have c1 := D4.out.cell (i := 1) (v := .int .u64 (cl : Int)) rfl
    have c2 := D4.out.cell (i := 2) (v := .int .u64 (cb : Int)) rfl
    have d0 := E3.out.cell (i := 0) (v := .int .u64 (dh : Int)) rfl
    have d1 := E3.out.cell (i := 1) (v := .int .u64 (lo : Int)) rfl
    have d2 := E3.out.cell (i := 2) (v := .int .u64 (bw : Int)) rfl
    have e0 := F2.out.cell (i := 0) (v := .int .u64 (eh : Int)) rfl
    have e1 := F2.out.cell (i := 1) (v := .int .u64 (lo : Int)) rfl
    have e2 := F2.out.cell (i := 2) (v := .int .u64 (bw : Int)) rfl
    have f0 := G1.out.cell (i := 0) (v := .int .u64 (hi : Int)) rfl
    have f1 := G1.out.cell (i := 1) (v := .int .u64 18446744073709551615) rfl
    have f2 := G1.out.cell (i := 2) (v := .int .u64 18446744073709551615) rfl
    go_upto_region 13 with fail
    have J1 : Hid (TfI W ⟨hi, lo, bw⟩ x0 x1 x2 w4.heap.size _) := Lib.hid (TfI.drew ⟨I4.out, G1.out⟩)
    clear b0 b1 b2 z0 z1 z2 c0 c1 c2 d0 d1 d2 e0 e1 e2 f0 f1 f2 I4 D4 E3 F2 G1
    obtain ⟨c0, c1, c2, c3, c4, c5, c6, -⟩ := J1.out.seven
    go_region_held3 (fun w' => w'.cell? ⟨W.heap.size, 0, none⟩ = some (.int .u64 (hi : Int)) ∧ w'.cell? ⟨W.heap.size, 1, none⟩ = some (.int .u64 (lo : Int)) ∧ w'.cell? ⟨W.heap.size, 2, none⟩ = some (.int .u64 (bw : Int)) ∧ w'.cell? ⟨W.heap.size + 1, 0, none⟩ = some (.int .u64 (x0 : Int)) ∧ w'.cell? ⟨w4.heap.size, 0, none⟩ = some (.int .u64 (hi : Int)) ∧ w'.cell? ⟨w4.heap.size, 1, none⟩ = some (.int .u64 18446744073709551615) ∧ w'.cell? ⟨w4.heap.size, 2, none⟩ = some (.int .u64 18446744073709551615) ∧ Hid (TfI W ⟨hi, lo, bw⟩ x0 x1 x2 w4.heap.size w'))
      (first | exact J1.out.seven | exact seven_keep (by assumption) hb)
      (first
        | (go_at_call 5; go_split_ands; (with_reducible refine (HA.out _).mono ?_); rintro e w' ⟨rfl, hb⟩)
        | (go_at_call 14; go_split_ands; (with_reducible refine (C1.out _).mono ?_); rintro e w' ⟨rfl, hb⟩)
        | (go_at_call 16; go_split_ands; (with_reducible refine (R1.out _).mono ?_); rintro e w' ⟨rfl, hb⟩)
        | (go_at_call 18; go_split_ands; (with_reducible refine (M1.out _).mono ?_); rintro e w' ⟨rfl, hb⟩))
    all_goals
      go_split_ands
      have E := Lib.hid ((‹Hid (TfI W ⟨hi, lo, bw⟩ x0 x1 x2 w4.heap.size _)›).out)
      go_wp2_with fail
      go_ret
      exact ⟨rfl, E.out.t.bel⟩
  · have t1 : ((lo : Int) == 18446744073709551615) = false := beq_eq_false_iff_ne.2 (by omega)
    have o1 : wv = lo := by rw [HO.out, if_neg c]
    rw [o1] at q1
    clear c HO o1 wv
    go_enter Try.func4, Try.ntmps4
    go_wp2_with fail
    refine (L1.out _).mono ?_
    rintro e w1 ⟨rfl, k⟩
    have I1 := Lib.hid ((I0.out.to k).to ((Below.refl _ _).alloc (Nat.le_refl _) (.cells #[.int .u64 (hi : Int), .int .u64 (cl : Int), .int .u64 (cb : Int)] 24)))
    have D1 := Lib.hid (Blk.new w1 24 #[.int .u64 (hi : Int), .int .u64 (cl : Int), .int .u64 (cb : Int)])
    clear k I0 L1
    have b0 := I1.out.bb.cell (i := 0) (v := .int .u64 (hi : Int)) rfl
    have b1 := I1.out.bb.cell (i := 1) (v := .int .u64 (lo : Int)) rfl
    have b2 := I1.out.bb.cell (i := 2) (v := .int .u64 (bw : Int)) rfl
    have z0 := I1.out.bx.cell (i := 0) (v := .int .u64 (x0 : Int)) rfl
    have z1 := I1.out.bx.cell (i := 1) (v := .int .u64 (x1 : Int)) rfl
    have z2 := I1.out.bx.cell (i := 2) (v := .int .u64 (x2 : Int)) rfl
    have c0 := D1.out.cell (i := 0) (v := .int .u64 (hi : Int)) rfl
    have c1 := D1.out.cell (i := 1) (v := .int .u64 (cl : Int)) rfl
    have c2 := D1.out.cell (i := 2) (v := .int .u64 (cb : Int)) rfl
    go_wp2_with fail
    refine (U1.out _).mono ?_
    rintro e w2 ⟨rfl, k⟩
    have I2 := Lib.hid ((I1.out.to k).to ((Below.refl _ _).alloc (Nat.le_refl _) (.cells #[.int .u64 (dh : Int), .int .u64 (lo : Int), .int .u64 (bw : Int)] 24)))
    have D2 := Lib.hid ((D1.out.keep k).alloc (.cells #[.int .u64 (dh : Int), .int .u64 (lo : Int), .int .u64 (bw : Int)] 24))
    have E1 := Lib.hid (Blk.new w2 24 #[.int .u64 (dh : Int), .int .u64 (lo : Int), .int .u64 (bw : Int)])
    clear b0 b1 b2 z0 z1 z2 c0 c1 c2
    clear k I1 U1 D1
    have b0 := I2.out.bb.cell (i := 0) (v := .int .u64 (hi : Int)) rfl
    have b1 := I2.out.bb.cell (i := 1) (v := .int .u64 (lo : Int)) rfl
    have b2 := I2.out.bb.cell (i := 2) (v := .int .u64 (bw : Int)) rfl
    have z0 := I2.out.bx.cell (i := 0) (v := .int .u64 (x0 : Int)) rfl
    have z1 := I2.out.bx.cell (i := 1) (v := .int .u64 (x1 : Int)) rfl
    have z2 := I2.out.bx.cell (i := 2) (v := .int .u64 (x2 : Int)) rfl
    go_wp2_with fail
    refine (P1.out _).mono ?_
    rintro e w3 ⟨rfl, k⟩
    have I3 := Lib.hid ((I2.out.to k).to ((Below.refl _ _).alloc (Nat.le_refl _) (.cells #[.int .u64 (eh : Int), .int .u64 (lo : Int), .int .u64 (bw : Int)] 24)))
    have D3 := Lib.hid ((D2.out.keep k).alloc (.cells #[.int .u64 (eh : Int), .int .u64 (lo : Int), .int .u64 (bw : Int)] 24))
    have E2 := Lib.hid ((E1.out.keep k).alloc (.cells #[.int .u64 (eh : Int), .int .u64 (lo : Int), .int .u64 (bw : Int)] 24))
    have F1 := Lib.hid (Blk.new w3 24 #[.int .u64 (eh : Int), .int .u64 (lo : Int), .int .u64 (bw : Int)])
    clear b0 b1 b2 z0 z1 z2
    clear k I2 P1 D2 E1
    have b0 := I3.out.bb.cell (i := 0) (v := .int .u64 (hi : Int)) rfl
    have b1 := I3.out.bb.cell (i := 1) (v := .int .u64 (lo : Int)) rfl
    have b2 := I3.out.bb.cell (i := 2) (v := .int .u64 (bw : Int)) rfl
    have z0 := I3.out.bx.cell (i := 0) (v := .int .u64 (x0 : Int)) rfl
    have z1 := I3.out.bx.cell (i := 1) (v := .int .u64 (x1 : Int)) rfl
    have z2 := I3.out.bx.cell (i := 2) (v := .int .u64 (x2 : Int)) rfl
    go_wp2_with fail
    refine (S1.out _).mono ?_
    rintro e w4 ⟨rfl, k⟩
    have I4 := Lib.hid ((I3.out.to k).to ((Below.refl _ _).alloc (Nat.le_refl _) (.cells #[.int .u64 (hi : Int), .int .u64 18446744073709551615, .int .u64 18446744073709551615] 24)))
    have D4 := Lib.hid ((D3.out.keep k).alloc (.cells #[.int .u64 (hi : Int), .int .u64 18446744073709551615, .int .u64 18446744073709551615] 24))
    have E3 := Lib.hid ((E2.out.keep k).alloc (.cells #[.int .u64 (hi : Int), .int .u64 18446744073709551615, .int .u64 18446744073709551615] 24))
    have F2 := Lib.hid ((F1.out.keep k).alloc (.cells #[.int .u64 (hi : Int), .int .u64 18446744073709551615, .int .u64 18446744073709551615] 24))
    have G1 := Lib.hid (Blk.new w4 24 #[.int .u64 (hi : Int), .int .u64 18446744073709551615, .int .u64 18446744073709551615])
    clear b0 b1 b2 z0 z1 z2
    clear k I3 S1 D3 E2 F1
    have b0 := I4.out.bb.cell (i := 0) (v := .int .u64 (hi : Int)) rfl
    have b1 := I4.out.bb.cell (i := 1) (v := .int .u64 (lo : Int)) rfl
    have b2 := I4.out.bb.cell (i := 2) (v := .int .u64 (bw : Int)) rfl
    have z0 := I4.out.bx.cell (i := 0) (v := .int .u64 (x0 : Int)) rfl
    have z1 := I4.out.bx.cell (i := 1) (v := .int .u64 (x1 : Int)) rfl
    have z2 := I4.out.bx.cell (i := 2) (v := .int .u64 (x2 : Int)) rfl
    have c0 := D4.out.cell (i := 0) (v := .int .u64 (hi : Int)) rfl
    have c1 := D4.out.cell (i := 1) (v := .int .u64 (cl : Int)) rfl
    have c2 := D4.out.cell (i := 2) (v := .int .u64 (cb : Int)) rfl
    have d0 := E3.out.cell (i := 0) (v := .int .u64 (dh : Int)) rfl
    have d1 := E3.out.cell (i := 1) (v := .int .u64 (lo : Int)) rfl
    have d2 := E3.out.cell (i := 2) (v := .int .u64 (bw : Int)) rfl
    have e0 := F2.out.cell (i := 0) (v := .int .u64 (eh : Int)) rfl
    have e1 := F2.out.cell (i := 1) (v := .int .u64 (lo : Int)) rfl
    have e2 := F2.out.cell (i := 2) (v := .int .u64 (bw : Int)) rfl
    have f0 := G1.out.cell (i := 0) (v := .int .u64 (hi : Int)) rfl
    have f1 := G1.out.cell (i := 1) (v := .int .u64 18446744073709551615) rfl
    have f2 := G1.out.cell (i := 2) (v := .int .u64 18446744073709551615) rfl
    go_upto_region 13 with fail
    have J1 : Hid (TfI W ⟨hi, lo, bw⟩ x0 x1 x2 w4.heap.size _) := Lib.hid (TfI.drew ⟨I4.out, G1.out⟩)
    clear b0 b1 b2 z0 z1 z2 c0 c1 c2 d0 d1 d2 e0 e1 e2 f0 f1 f2 I4 D4 E3 F2 G1
    obtain ⟨c0, c1, c2, c3, c4, c5, c6, -⟩ := J1.out.seven
    go_region_held3 (fun w' => w'.cell? ⟨W.heap.size, 0, none⟩ = some (.int .u64 (hi : Int)) ∧ w'.cell? ⟨W.heap.size, 1, none⟩ = some (.int .u64 (lo : Int)) ∧ w'.cell? ⟨W.heap.size, 2, none⟩ = some (.int .u64 (bw : Int)) ∧ w'.cell? ⟨W.heap.size + 1, 0, none⟩ = some (.int .u64 (x0 : Int)) ∧ w'.cell? ⟨w4.heap.size, 0, none⟩ = some (.int .u64 (hi : Int)) ∧ w'.cell? ⟨w4.heap.size, 1, none⟩ = some (.int .u64 18446744073709551615) ∧ w'.cell? ⟨w4.heap.size, 2, none⟩ = some (.int .u64 18446744073709551615) ∧ Hid (TfI W ⟨hi, lo, bw⟩ x0 x1 x2 w4.heap.size w'))
      (first | exact J1.out.seven | exact seven_keep (by assumption) hb)
      (first
        | (go_at_call 5; go_split_ands; (with_reducible refine (HA.out _).mono ?_); rintro e w' ⟨rfl, hb⟩)
        | (go_at_call 14; go_split_ands; (with_reducible refine (C1.out _).mono ?_); rintro e w' ⟨rfl, hb⟩)
        | (go_at_call 16; go_split_ands; (with_reducible refine (R1.out _).mono ?_); rintro e w' ⟨rfl, hb⟩)
        | (go_at_call 18; go_split_ands; (with_reducible refine (M1.out _).mono ?_); rintro e w' ⟨rfl, hb⟩))
    all_goals
      go_split_ands
      have E := Lib.hid ((‹Hid (TfI W ⟨hi, lo, bw⟩ x0 x1 x2 w4.heap.size _)›).out)
      go_wp2_with fail
      go_ret
      exact ⟨rfl, E.out.t.bel⟩
end Go.Proofs.Ytgjpenlfhlkleaa
