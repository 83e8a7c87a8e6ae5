/- ModeNext, ModeArrows, ModeQuiet over this translation: the walks. -/
import Derived.Test.YtkgdfbiokgggmaaLaw14a
import Derived.Test.YtkgdfbiokgggmaaIn14
import Derived.Deep.RegionHeld3
import Derived.Deep.QuietTactic
import Derived.Deep.DeepFit
import Derived.StillTailTactics
set_option linter.unusedVariables false
namespace Go.Proofs.Ytkgdfbiokgggmaa
open Go.RowKit Pl

/-- What stays all along: the signal's block. -/
structure SgI (W : World) (x : SigS) (w : World) : Prop where
  bel : Below W.heap.size W w
  bx : Blk w W.heap.size 25 x.cells
theorem SgI.to {W w w' : World} {x : SigS} (h : SgI W x w) (k : Below w.heap.size w w') : SgI W x w' := ⟨bel_to h.bel k h.bel.size, h.bx.keep k⟩
theorem SgI.drew {W w : World} {x : SigS} (h : SgI W x w) : SgI W x w.drew := h.to ((Drawn.drew w).below _)
theorem SgI.start (W : World) (x : SigS) : SgI W x (W.alloc (.cells x.cells 25)) := ⟨(Below.refl _ _).alloc (Nat.le_refl _) _, Blk.new W _ _⟩
/-- Its ten cells, and it. -/
def TenI (W : World) (f r l st : Bool) (fl tg cp rs el wt : Nat) (w : World) : Prop :=
  w.cell? ⟨W.heap.size, 0, none⟩ = some (.bool f) ∧ w.cell? ⟨W.heap.size, 1, none⟩ = some (.bool r) ∧ w.cell? ⟨W.heap.size, 2, none⟩ = some (.bool l) ∧ w.cell? ⟨W.heap.size, 3, none⟩ = some (.bool st) ∧
  w.cell? ⟨W.heap.size, 4, none⟩ = some (.int .u64 (fl : Int)) ∧ w.cell? ⟨W.heap.size, 5, none⟩ = some (.int .u64 (tg : Int)) ∧ w.cell? ⟨W.heap.size, 6, none⟩ = some (.int .u64 (cp : Int)) ∧ w.cell? ⟨W.heap.size, 7, none⟩ = some (.int .u64 (rs : Int)) ∧
  w.cell? ⟨W.heap.size, 8, none⟩ = some (.int .u64 (el : Int)) ∧ w.cell? ⟨W.heap.size, 9, none⟩ = some (.int .u64 (wt : Int)) ∧ Hid (SgI W ⟨f, r, l, st, fl, tg, cp, rs, el, wt⟩ w)
theorem SgI.ten {W w : World} {f r l st : Bool} {fl tg cp rs el wt : Nat} (h : SgI W ⟨f, r, l, st, fl, tg, cp, rs, el, wt⟩ w) : TenI W f r l st fl tg cp rs el wt w :=
  ⟨h.bx.cell rfl, h.bx.cell rfl, h.bx.cell rfl, h.bx.cell rfl, h.bx.cell rfl, h.bx.cell rfl, h.bx.cell rfl, h.bx.cell rfl, h.bx.cell rfl, h.bx.cell rfl, Lib.hid h⟩
theorem ten_keep {W w w' : World} {f r l st : Bool} {fl tg cp rs el wt : Nat} (h : Hid (SgI W ⟨f, r, l, st, fl, tg, cp, rs, el, wt⟩ w)) (k : Below w.heap.size w w') : TenI W f r l st fl tg cp rs el wt w' := (h.out.to k).ten

set_option maxRecDepth 100000 in
set_option maxHeartbeats 4000000 in
theorem ModeNext_walk (s : Int) (x : SigS) (c : Nat) (W : World) (hs : (Lit.int .i64 s).wf = true) (hc : c ≤ 18446744073709551615) (hx : x.ok) :
    Calls Try.prog 3 #[.int .i64 s, .agg x.cells, .int .u64 (c : Int)] W fun e w' => e = .returned (.bool true) ∧ Below W.heap.size W w' := by
  have HA := Lib.hid (fun w => alive14 w)
  have N1 := Lib.hid (fun w => mo_Next s x hx w)
  have N2 := Lib.hid (fun w => rf_Next s x hx w)
  have W1 : Hid (∀ w, Calls Try.prog 9 #[.int .i64 s, .int .u64 (c : Int), .int .u64 (x.wt : Int)] w fun e w' => e = .returned (.int .u64 ((waitS s c x.wt : Nat) : Int)) ∧ Below w.heap.size w w') := Lib.hid (fun w => (mo_Wait s c x.wt w hc).mono fun _ _ h => ⟨h.1, by rw [h.2]; exact Below.refl _ _⟩)
  have W2 : Hid (∀ w, Calls Try.prog 10 #[.int .i64 s, .int .u64 (c : Int), .int .u64 (x.wt : Int)] w fun e w' => e = .returned (.int .u64 ((waitS s c x.wt : Nat) : Int)) ∧ Below w.heap.size w w') := Lib.hid (fun w => (rf_Wait s c x.wt w hc).mono fun _ _ h => ⟨h.1, by rw [h.2]; exact Below.refl _ _⟩)
  have J0 := Lib.hid (SgI.start W x)
  clear hs hc hx
  obtain ⟨f, r, l, st, fl, tg, cp, rs, el, wt⟩ := x
  dsimp only at W1 W2
  generalize nextS s ⟨f, r, l, st, fl, tg, cp, rs, el, wt⟩ = n at *
  generalize waitS s c wt = t at *
  have en : (n == n) = true := by simp
  have et : ((t : Int) == (t : Int)) = true := by simp
  have J1 := Lib.hid J0.out.drew
  unfold SigS.cells at *
  dsimp only at *
  obtain ⟨c0, c1, c2, c3, c4, c5, c6, c7, c8, c9, -⟩ := J1.out.ten
  go_enter Try.func3, Try.ntmps3
  go_upto_region 1 with fail
  go_region_held3 (fun w' => w'.cell? ⟨W.heap.size, 0, none⟩ = some (.bool f) ∧ w'.cell? ⟨W.heap.size, 1, none⟩ = some (.bool r) ∧ w'.cell? ⟨W.heap.size, 2, none⟩ = some (.bool l) ∧ w'.cell? ⟨W.heap.size, 3, none⟩ = some (.bool st) ∧ w'.cell? ⟨W.heap.size, 4, none⟩ = some (.int .u64 (fl : Int)) ∧ w'.cell? ⟨W.heap.size, 5, none⟩ = some (.int .u64 (tg : Int)) ∧ w'.cell? ⟨W.heap.size, 6, none⟩ = some (.int .u64 (cp : Int)) ∧ w'.cell? ⟨W.heap.size, 7, none⟩ = some (.int .u64 (rs : Int)) ∧ w'.cell? ⟨W.heap.size, 8, none⟩ = some (.int .u64 (el : Int)) ∧ w'.cell? ⟨W.heap.size, 9, none⟩ = some (.int .u64 (wt : Int)) ∧ Hid (SgI W ⟨f, r, l, st, fl, tg, cp, rs, el, wt⟩ w'))
    (first | exact J1.out.ten | exact ten_keep (by assumption) hb)
    (first | (go_at_call 6; go_split_ands; (with_reducible refine (HA.out _).mono ?_); rintro e w' ⟨rfl, hb⟩) | (go_at_call 7; go_split_ands; (with_reducible refine (N1.out _).mono ?_); rintro e w' ⟨rfl, hb⟩) | (go_at_call 8; go_split_ands; (with_reducible refine (N2.out _).mono ?_); rintro e w' ⟨rfl, hb⟩) | (go_at_call 9; go_split_ands; (with_reducible refine (W1.out _).mono ?_); rintro e w' ⟨rfl, hb⟩) | (go_at_call 10; go_split_ands; (with_reducible refine (W2.out _).mono ?_); rintro e w' ⟨rfl, hb⟩))
  all_goals
    go_split_ands
    have E := Lib.hid ((‹Hid (SgI W ⟨f, r, l, st, fl, tg, cp, rs, el, wt⟩ _)›).out)
    go_wp2_with fail
    go_ret
    exact ⟨by simp, E.out.bel⟩

theorem wf_next {s : Int} (hs : (Lit.int .i64 s).wf = true) (x : SigS) : (Lit.int .i64 (nextS s x)).wf = true := by
  by_cases c : s < 0 ∨ 6 < s
  · rw [next_out c]; exact hs
  · have h := (next_follows s x).2
    have hr : rightI s = true := by unfold rightI; simp; omega
    rw [hr] at h
    unfold rightI at h
    simp at h
    exact wf_i64 (by omega) (by omega)
theorem out_of {s : Int} (h : rightI s = false) : s < 0 ∨ 6 < s := by
  unfold rightI at h
  simp at h
  omega

set_option maxRecDepth 100000 in
set_option maxHeartbeats 4000000 in
theorem ModeArrows_walk (s t : Int) (x : SigS) (W : World) (hs : (Lit.int .i64 s).wf = true) (ht : (Lit.int .i64 t).wf = true) (hx : x.ok) :
    Calls Try.prog 4 #[.int .i64 s, .int .i64 t, .agg x.cells] W fun e w' => e = .returned (.bool true) ∧ Below W.heap.size W w' := by
  have HA := Lib.hid (fun w => alive14 w)
  have R1 := Lib.hid (fun w => rf_Right s w)
  have N1 := Lib.hid (fun w => mo_Next s x hx w)
  have F1 := Lib.hid (fun w => mo_Follows s (nextS s x) w hs (wf_next hs x))
  rw [(next_follows s x).1] at F1
  have F2 := Lib.hid (fun w => mo_Follows s t w hs ht)
  have F3 := Lib.hid (fun w => rf_Follows s t w)
  have R2 := Lib.hid (fun w => rf_Right (nextS s x) w)
  rw [(next_follows s x).2] at R2
  have G0 := Lib.hid ((Below.refl W.heap.size W).alloc (Nat.le_refl _) (.cells x.cells 25))
  clear hs ht hx
  generalize followsS s t = q at *
  have eq : (q == q) = true := by simp
  cases hr : rightI s
  · rw [next_out (out_of hr)] at *
    rw [hr] at R1 F1 R2
    have es : (s == s) = true := by simp
    clear hr
    obtain ⟨f, r, l, st, fl, tg, cp, rs, el, wt⟩ := x
    unfold SigS.cells at *
    dsimp only at *
    go_enter Try.func4, Try.ntmps4
    go_wp2_with fail
    refine (R1.out _).mono ?_
    rintro e w' ⟨rfl, rfl⟩
    go_wp2_with fail
    refine (N1.out _).mono ?_
    rintro e w1 ⟨rfl, h1⟩
    have G1 := Lib.hid (bel_to G0.out h1 G0.out.size)
    clear h1 G0
    go_wp2_with fail
    refine (F1.out _).mono ?_
    rintro e w2 ⟨rfl, h1⟩
    have G2 := Lib.hid (bel_to G1.out h1 G1.out.size)
    clear h1 G1
    go_wp2_with fail
    refine (HA.out _).mono ?_
    rintro e w3 ⟨rfl, h1⟩
    have G3 := Lib.hid (bel_to G2.out h1 G2.out.size)
    clear h1 G2
    go_wp2_with fail
    refine (F2.out _).mono ?_
    rintro e w4 ⟨rfl, h1⟩
    have G4 := Lib.hid (bel_to G3.out h1 G3.out.size)
    clear h1 G3
    go_wp2_with fail
    refine (F3.out _).mono ?_
    rintro e w' ⟨rfl, rfl⟩
    go_wp2_with fail
    refine (R2.out _).mono ?_
    rintro e w' ⟨rfl, rfl⟩
    go_wp2_with fail
    go_ret
    exact ⟨rfl, G4.out⟩
  · rw [hr] at R1 F1 R2
    clear hr
    generalize nextS s x = n at *
    obtain ⟨f, r, l, st, fl, tg, cp, rs, el, wt⟩ := x
    unfold SigS.cells at *
    dsimp only at *
    go_enter Try.func4, Try.ntmps4
    go_wp2_with fail
    refine (R1.out _).mono ?_
    rintro e w' ⟨rfl, rfl⟩
    go_wp2_with fail
    refine (N1.out _).mono ?_
    rintro e w1 ⟨rfl, h1⟩
    have G1 := Lib.hid (bel_to G0.out h1 G0.out.size)
    clear h1 G0
    go_wp2_with fail
    refine (F1.out _).mono ?_
    rintro e w2 ⟨rfl, h1⟩
    have G2 := Lib.hid (bel_to G1.out h1 G1.out.size)
    clear h1 G1
    go_wp2_with fail
    refine (HA.out _).mono ?_
    rintro e w3 ⟨rfl, h1⟩
    have G3 := Lib.hid (bel_to G2.out h1 G2.out.size)
    clear h1 G2
    go_wp2_with fail
    refine (F2.out _).mono ?_
    rintro e w4 ⟨rfl, h1⟩
    have G4 := Lib.hid (bel_to G3.out h1 G3.out.size)
    clear h1 G3
    go_wp2_with fail
    refine (F3.out _).mono ?_
    rintro e w' ⟨rfl, rfl⟩
    go_wp2_with fail
    refine (R2.out _).mono ?_
    rintro e w' ⟨rfl, rfl⟩
    go_wp2_with fail
    go_ret
    exact ⟨rfl, G4.out⟩

set_option maxRecDepth 100000 in
set_option maxHeartbeats 4000000 in
theorem quiet_z0 (rs : Nat) (W : World) (hx : SigS.ok ⟨false, false, false, false, 0, 0, 0, rs, 0, 1⟩) :
    Calls Try.prog 5 #[.int .i64 0, .int .u64 0, .int .u64 (rs : Int)] W fun e w' => e = .returned (.bool true) ∧ Below W.heap.size W w' := by
  have HA := Lib.hid (fun w => alive14 w)
  have N1 := Lib.hid (fun w => mo_Next 0 ⟨false, false, false, false, 0, 0, 0, rs, 0, 1⟩ hx w)
  clear hx
  generalize nextS 0 ⟨false, false, false, false, 0, 0, 0, rs, 0, 1⟩ = n at *
  have G0 := Lib.hid ((Below.refl W.heap.size W).alloc (Nat.le_refl _) (.cells (SigS.cells ⟨false, false, false, false, 0, 0, 0, rs, 0, 1⟩) 25))
  unfold SigS.cells at *
  dsimp only at *
  go_enter Try.func5, Try.ntmps5
  go_wp2_with fail
  refine (N1.out _).mono ?_
  rintro e w1 ⟨rfl, h1⟩
  have G1 := Lib.hid (bel_to G0.out h1 G0.out.size)
  clear h1 G0
  go_wp2_with fail
  refine (HA.out _).mono ?_
  rintro e w2 ⟨rfl, h1⟩
  have G2 := Lib.hid (bel_to G1.out h1 G1.out.size)
  clear h1 G1
  go_wp2_with fail
  go_ret
  exact ⟨rfl, G2.out⟩

set_option maxRecDepth 100000 in
set_option maxHeartbeats 4000000 in
theorem quiet_z1 (rs : Nat) (W : World) (hx : SigS.ok ⟨false, false, false, false, 0, 0, 0, rs, 0, 1⟩) :
    Calls Try.prog 5 #[.int .i64 1, .int .u64 0, .int .u64 (rs : Int)] W fun e w' => e = .returned (.bool true) ∧ Below W.heap.size W w' := by
  have HA := Lib.hid (fun w => alive14 w)
  have N1 := Lib.hid (fun w => mo_Next 1 ⟨false, false, false, false, 0, 0, 0, rs, 0, 1⟩ hx w)
  clear hx
  generalize nextS 1 ⟨false, false, false, false, 0, 0, 0, rs, 0, 1⟩ = n at *
  have G0 := Lib.hid ((Below.refl W.heap.size W).alloc (Nat.le_refl _) (.cells (SigS.cells ⟨false, false, false, false, 0, 0, 0, rs, 0, 1⟩) 25))
  unfold SigS.cells at *
  dsimp only at *
  go_enter Try.func5, Try.ntmps5
  go_wp2_with fail
  refine (N1.out _).mono ?_
  rintro e w1 ⟨rfl, h1⟩
  have G1 := Lib.hid (bel_to G0.out h1 G0.out.size)
  clear h1 G0
  go_wp2_with fail
  refine (HA.out _).mono ?_
  rintro e w2 ⟨rfl, h1⟩
  have G2 := Lib.hid (bel_to G1.out h1 G1.out.size)
  clear h1 G1
  go_wp2_with fail
  go_ret
  exact ⟨rfl, G2.out⟩

set_option maxRecDepth 100000 in
set_option maxHeartbeats 4000000 in
theorem quiet_z2 (rs : Nat) (W : World) (hx : SigS.ok ⟨false, false, false, false, 0, 0, 0, rs, 0, 1⟩) :
    Calls Try.prog 5 #[.int .i64 2, .int .u64 0, .int .u64 (rs : Int)] W fun e w' => e = .returned (.bool true) ∧ Below W.heap.size W w' := by
  have HA := Lib.hid (fun w => alive14 w)
  have N1 := Lib.hid (fun w => mo_Next 2 ⟨false, false, false, false, 0, 0, 0, rs, 0, 1⟩ hx w)
  clear hx
  generalize nextS 2 ⟨false, false, false, false, 0, 0, 0, rs, 0, 1⟩ = n at *
  have G0 := Lib.hid ((Below.refl W.heap.size W).alloc (Nat.le_refl _) (.cells (SigS.cells ⟨false, false, false, false, 0, 0, 0, rs, 0, 1⟩) 25))
  unfold SigS.cells at *
  dsimp only at *
  go_enter Try.func5, Try.ntmps5
  go_wp2_with fail
  refine (N1.out _).mono ?_
  rintro e w1 ⟨rfl, h1⟩
  have G1 := Lib.hid (bel_to G0.out h1 G0.out.size)
  clear h1 G0
  go_wp2_with fail
  refine (HA.out _).mono ?_
  rintro e w2 ⟨rfl, h1⟩
  have G2 := Lib.hid (bel_to G1.out h1 G1.out.size)
  clear h1 G1
  go_wp2_with fail
  go_ret
  exact ⟨rfl, G2.out⟩

set_option maxRecDepth 100000 in
set_option maxHeartbeats 4000000 in
theorem quiet_z3 (rs : Nat) (W : World) (hx : SigS.ok ⟨false, false, false, false, 0, 0, 0, rs, 0, 1⟩) :
    Calls Try.prog 5 #[.int .i64 3, .int .u64 0, .int .u64 (rs : Int)] W fun e w' => e = .returned (.bool true) ∧ Below W.heap.size W w' := by
  have HA := Lib.hid (fun w => alive14 w)
  have N1 := Lib.hid (fun w => mo_Next 3 ⟨false, false, false, false, 0, 0, 0, rs, 0, 1⟩ hx w)
  clear hx
  generalize nextS 3 ⟨false, false, false, false, 0, 0, 0, rs, 0, 1⟩ = n at *
  have G0 := Lib.hid ((Below.refl W.heap.size W).alloc (Nat.le_refl _) (.cells (SigS.cells ⟨false, false, false, false, 0, 0, 0, rs, 0, 1⟩) 25))
  unfold SigS.cells at *
  dsimp only at *
  go_enter Try.func5, Try.ntmps5
  go_wp2_with fail
  refine (N1.out _).mono ?_
  rintro e w1 ⟨rfl, h1⟩
  have G1 := Lib.hid (bel_to G0.out h1 G0.out.size)
  clear h1 G0
  go_wp2_with fail
  refine (HA.out _).mono ?_
  rintro e w2 ⟨rfl, h1⟩
  have G2 := Lib.hid (bel_to G1.out h1 G1.out.size)
  clear h1 G1
  go_wp2_with fail
  go_ret
  exact ⟨rfl, G2.out⟩

set_option maxRecDepth 100000 in
set_option maxHeartbeats 4000000 in
theorem quiet_z4 (rs : Nat) (W : World) (hx : SigS.ok ⟨false, false, false, false, 0, 0, 0, rs, 0, 1⟩) :
    Calls Try.prog 5 #[.int .i64 4, .int .u64 0, .int .u64 (rs : Int)] W fun e w' => e = .returned (.bool true) ∧ Below W.heap.size W w' := by
  have HA := Lib.hid (fun w => alive14 w)
  have N1 := Lib.hid (fun w => mo_Next 4 ⟨false, false, false, false, 0, 0, 0, rs, 0, 1⟩ hx w)
  clear hx
  generalize nextS 4 ⟨false, false, false, false, 0, 0, 0, rs, 0, 1⟩ = n at *
  have G0 := Lib.hid ((Below.refl W.heap.size W).alloc (Nat.le_refl _) (.cells (SigS.cells ⟨false, false, false, false, 0, 0, 0, rs, 0, 1⟩) 25))
  unfold SigS.cells at *
  dsimp only at *
  go_enter Try.func5, Try.ntmps5
  go_wp2_with fail
  refine (N1.out _).mono ?_
  rintro e w1 ⟨rfl, h1⟩
  have G1 := Lib.hid (bel_to G0.out h1 G0.out.size)
  clear h1 G0
  go_wp2_with fail
  refine (HA.out _).mono ?_
  rintro e w2 ⟨rfl, h1⟩
  have G2 := Lib.hid (bel_to G1.out h1 G1.out.size)
  clear h1 G1
  go_wp2_with fail
  go_ret
  exact ⟨rfl, G2.out⟩

set_option maxRecDepth 100000 in
set_option maxHeartbeats 4000000 in
theorem quiet_z5 (rs : Nat) (W : World) (hx : SigS.ok ⟨false, false, false, false, 0, 0, 0, rs, 0, 1⟩) :
    Calls Try.prog 5 #[.int .i64 5, .int .u64 0, .int .u64 (rs : Int)] W fun e w' => e = .returned (.bool true) ∧ Below W.heap.size W w' := by
  have HA := Lib.hid (fun w => alive14 w)
  have N1 := Lib.hid (fun w => mo_Next 5 ⟨false, false, false, false, 0, 0, 0, rs, 0, 1⟩ hx w)
  clear hx
  generalize nextS 5 ⟨false, false, false, false, 0, 0, 0, rs, 0, 1⟩ = n at *
  have G0 := Lib.hid ((Below.refl W.heap.size W).alloc (Nat.le_refl _) (.cells (SigS.cells ⟨false, false, false, false, 0, 0, 0, rs, 0, 1⟩) 25))
  unfold SigS.cells at *
  dsimp only at *
  go_enter Try.func5, Try.ntmps5
  go_wp2_with fail
  refine (N1.out _).mono ?_
  rintro e w1 ⟨rfl, h1⟩
  have G1 := Lib.hid (bel_to G0.out h1 G0.out.size)
  clear h1 G0
  go_wp2_with fail
  refine (HA.out _).mono ?_
  rintro e w2 ⟨rfl, h1⟩
  have G2 := Lib.hid (bel_to G1.out h1 G1.out.size)
  clear h1 G1
  go_wp2_with fail
  go_ret
  exact ⟨rfl, G2.out⟩

set_option maxRecDepth 100000 in
set_option maxHeartbeats 4000000 in
theorem quiet_z6 (rs : Nat) (W : World) (hx : SigS.ok ⟨false, false, false, false, 0, 0, 0, rs, 0, 1⟩) :
    Calls Try.prog 5 #[.int .i64 6, .int .u64 0, .int .u64 (rs : Int)] W fun e w' => e = .returned (.bool true) ∧ Below W.heap.size W w' := by
  have HA := Lib.hid (fun w => alive14 w)
  have N1 := Lib.hid (fun w => mo_Next 6 ⟨false, false, false, false, 0, 0, 0, rs, 0, 1⟩ hx w)
  clear hx
  generalize nextS 6 ⟨false, false, false, false, 0, 0, 0, rs, 0, 1⟩ = n at *
  have G0 := Lib.hid ((Below.refl W.heap.size W).alloc (Nat.le_refl _) (.cells (SigS.cells ⟨false, false, false, false, 0, 0, 0, rs, 0, 1⟩) 25))
  unfold SigS.cells at *
  dsimp only at *
  go_enter Try.func5, Try.ntmps5
  go_wp2_with fail
  refine (N1.out _).mono ?_
  rintro e w1 ⟨rfl, h1⟩
  have G1 := Lib.hid (bel_to G0.out h1 G0.out.size)
  clear h1 G0
  go_wp2_with fail
  refine (HA.out _).mono ?_
  rintro e w2 ⟨rfl, h1⟩
  have G2 := Lib.hid (bel_to G1.out h1 G1.out.size)
  clear h1 G1
  go_wp2_with fail
  go_ret
  exact ⟨rfl, G2.out⟩

set_option maxRecDepth 100000 in
set_option maxHeartbeats 4000000 in
theorem quiet_zo (s : Int) (rs : Nat) (W : World) (hx : SigS.ok ⟨false, false, false, false, 0, 0, 0, rs, 0, 1⟩) (hs : s < 0 ∨ 6 < s) :
    Calls Try.prog 5 #[.int .i64 s, .int .u64 0, .int .u64 (rs : Int)] W fun e w' => e = .returned (.bool true) ∧ Below W.heap.size W w' := by
  have HA := Lib.hid (fun w => alive14 w)
  have N1 := Lib.hid (fun w => mo_Next s ⟨false, false, false, false, 0, 0, 0, rs, 0, 1⟩ hx w)
  clear hx
  generalize nextS s ⟨false, false, false, false, 0, 0, 0, rs, 0, 1⟩ = n at *
  have G0 := Lib.hid ((Below.refl W.heap.size W).alloc (Nat.le_refl _) (.cells (SigS.cells ⟨false, false, false, false, 0, 0, 0, rs, 0, 1⟩) 25))
  have t0 : (s == 0) = false := beq_eq_false_iff_ne.2 (by omega)
  have t2 : (s == 2) = false := beq_eq_false_iff_ne.2 (by omega)
  have t3 : (s == 3) = false := beq_eq_false_iff_ne.2 (by omega)
  have t6 : (s == 6) = false := beq_eq_false_iff_ne.2 (by omega)
  have t1 : (s == 1) = false := beq_eq_false_iff_ne.2 (by omega)
  clear hs
  unfold SigS.cells at *
  dsimp only at *
  go_enter Try.func5, Try.ntmps5
  go_wp2_with fail
  refine (N1.out _).mono ?_
  rintro e w1 ⟨rfl, h1⟩
  have G1 := Lib.hid (bel_to G0.out h1 G0.out.size)
  clear h1 G0
  go_wp2_with fail
  refine (HA.out _).mono ?_
  rintro e w2 ⟨rfl, h1⟩
  have G2 := Lib.hid (bel_to G1.out h1 G1.out.size)
  clear h1 G1
  go_wp2_with fail
  go_ret
  exact ⟨rfl, G2.out⟩

set_option maxRecDepth 100000 in
set_option maxHeartbeats 4000000 in
theorem quiet_p0 (fl tg rs : Nat) (W : World) (hx : SigS.ok ⟨false, false, false, false, fl, tg, 0, rs, 0, 1⟩) (h1 : 1 ≤ fl) (hf : fl ≤ 18446744073709551615) (htg : tg = fl - 1) :
    Calls Try.prog 5 #[.int .i64 0, .int .u64 (fl : Int), .int .u64 (rs : Int)] W fun e w' => e = .returned (.bool true) ∧ Below W.heap.size W w' := by
  have HA := Lib.hid (fun w => alive14 w)
  have N1 := Lib.hid (fun w => mo_Next 0 ⟨false, false, false, false, fl, tg, 0, rs, 0, 1⟩ hx w)
  clear hx
  rw [show nextS 0 ⟨false, false, false, false, fl, tg, 0, rs, 0, 1⟩ = 0 by rfl] at N1
  have G0 := Lib.hid ((Below.refl W.heap.size W).alloc (Nat.le_refl _) (.cells (SigS.cells ⟨false, false, false, false, fl, tg, 0, rs, 0, 1⟩) 25))
  have hm : min (fl : Int) 1 = 1 := by omega
  have hm2 : IntKind.u64.wrap ((fl : Int) - 1) = ((tg : Nat) : Int) := by
    rw [htg]; simp only [IntKind.wrap_u64]; omega
  have t9 : ((fl : Int) == 0) = false := beq_eq_false_iff_ne.2 (by omega)
  clear h1 hf htg
  unfold SigS.cells at *
  dsimp only at *
  go_enter Try.func5, Try.ntmps5
  go_wp2_with fail
  refine (N1.out _).mono ?_
  rintro e w1 ⟨rfl, h1⟩
  have G1 := Lib.hid (bel_to G0.out h1 G0.out.size)
  clear h1 G0
  go_wp2_with fail
  refine (HA.out _).mono ?_
  rintro e w2 ⟨rfl, h1⟩
  have G2 := Lib.hid (bel_to G1.out h1 G1.out.size)
  clear h1 G1
  go_wp2_with fail
  go_ret
  exact ⟨rfl, G2.out⟩

set_option maxRecDepth 100000 in
set_option maxHeartbeats 4000000 in
theorem quiet_p1 (fl tg rs : Nat) (W : World) (hx : SigS.ok ⟨false, false, false, false, fl, tg, 0, rs, 0, 1⟩) (h1 : 1 ≤ fl) (hf : fl ≤ 18446744073709551615) (htg : tg = fl - 1) :
    Calls Try.prog 5 #[.int .i64 1, .int .u64 (fl : Int), .int .u64 (rs : Int)] W fun e w' => e = .returned (.bool true) ∧ Below W.heap.size W w' := by
  have HA := Lib.hid (fun w => alive14 w)
  have N1 := Lib.hid (fun w => mo_Next 1 ⟨false, false, false, false, fl, tg, 0, rs, 0, 1⟩ hx w)
  clear hx
  rw [show nextS 1 ⟨false, false, false, false, fl, tg, 0, rs, 0, 1⟩ = 1 by (show (if fl ≤ tg then (2 : Int) else 1) = 1; exact if_neg (by omega))] at N1
  have G0 := Lib.hid ((Below.refl W.heap.size W).alloc (Nat.le_refl _) (.cells (SigS.cells ⟨false, false, false, false, fl, tg, 0, rs, 0, 1⟩) 25))
  have hm : min (fl : Int) 1 = 1 := by omega
  have hm2 : IntKind.u64.wrap ((fl : Int) - 1) = ((tg : Nat) : Int) := by
    rw [htg]; simp only [IntKind.wrap_u64]; omega
  have t9 : ((fl : Int) == 0) = false := beq_eq_false_iff_ne.2 (by omega)
  clear h1 hf htg
  unfold SigS.cells at *
  dsimp only at *
  go_enter Try.func5, Try.ntmps5
  go_wp2_with fail
  refine (N1.out _).mono ?_
  rintro e w1 ⟨rfl, h1⟩
  have G1 := Lib.hid (bel_to G0.out h1 G0.out.size)
  clear h1 G0
  go_wp2_with fail
  refine (HA.out _).mono ?_
  rintro e w2 ⟨rfl, h1⟩
  have G2 := Lib.hid (bel_to G1.out h1 G1.out.size)
  clear h1 G1
  go_wp2_with fail
  go_ret
  exact ⟨rfl, G2.out⟩

set_option maxRecDepth 100000 in
set_option maxHeartbeats 4000000 in
theorem quiet_p2 (fl tg rs : Nat) (W : World) (hx : SigS.ok ⟨false, false, false, false, fl, tg, 0, rs, 0, 1⟩) (h1 : 1 ≤ fl) (hf : fl ≤ 18446744073709551615) (htg : tg = fl - 1) :
    Calls Try.prog 5 #[.int .i64 2, .int .u64 (fl : Int), .int .u64 (rs : Int)] W fun e w' => e = .returned (.bool true) ∧ Below W.heap.size W w' := by
  have HA := Lib.hid (fun w => alive14 w)
  have N1 := Lib.hid (fun w => mo_Next 2 ⟨false, false, false, false, fl, tg, 0, rs, 0, 1⟩ hx w)
  clear hx
  rw [show nextS 2 ⟨false, false, false, false, fl, tg, 0, rs, 0, 1⟩ = 2 by (show (if fl ≤ min tg 0 then (3 : Int) else 2) = 2; exact if_neg (by omega))] at N1
  have G0 := Lib.hid ((Below.refl W.heap.size W).alloc (Nat.le_refl _) (.cells (SigS.cells ⟨false, false, false, false, fl, tg, 0, rs, 0, 1⟩) 25))
  have hm : min (fl : Int) 1 = 1 := by omega
  have hm2 : IntKind.u64.wrap ((fl : Int) - 1) = ((tg : Nat) : Int) := by
    rw [htg]; simp only [IntKind.wrap_u64]; omega
  have t9 : ((fl : Int) == 0) = false := beq_eq_false_iff_ne.2 (by omega)
  clear h1 hf htg
  unfold SigS.cells at *
  dsimp only at *
  go_enter Try.func5, Try.ntmps5
  go_wp2_with fail
  refine (N1.out _).mono ?_
  rintro e w1 ⟨rfl, h1⟩
  have G1 := Lib.hid (bel_to G0.out h1 G0.out.size)
  clear h1 G0
  go_wp2_with fail
  refine (HA.out _).mono ?_
  rintro e w2 ⟨rfl, h1⟩
  have G2 := Lib.hid (bel_to G1.out h1 G1.out.size)
  clear h1 G1
  go_wp2_with fail
  go_ret
  exact ⟨rfl, G2.out⟩

set_option maxRecDepth 100000 in
set_option maxHeartbeats 4000000 in
theorem quiet_p3 (fl tg rs : Nat) (W : World) (hx : SigS.ok ⟨false, false, false, false, fl, tg, 0, rs, 0, 1⟩) (h1 : 1 ≤ fl) (hf : fl ≤ 18446744073709551615) (htg : tg = fl - 1) :
    Calls Try.prog 5 #[.int .i64 3, .int .u64 (fl : Int), .int .u64 (rs : Int)] W fun e w' => e = .returned (.bool true) ∧ Below W.heap.size W w' := by
  have HA := Lib.hid (fun w => alive14 w)
  have N1 := Lib.hid (fun w => mo_Next 3 ⟨false, false, false, false, fl, tg, 0, rs, 0, 1⟩ hx w)
  clear hx
  rw [show nextS 3 ⟨false, false, false, false, fl, tg, 0, rs, 0, 1⟩ = 3 by rfl] at N1
  have G0 := Lib.hid ((Below.refl W.heap.size W).alloc (Nat.le_refl _) (.cells (SigS.cells ⟨false, false, false, false, fl, tg, 0, rs, 0, 1⟩) 25))
  have hm : min (fl : Int) 1 = 1 := by omega
  have hm2 : IntKind.u64.wrap ((fl : Int) - 1) = ((tg : Nat) : Int) := by
    rw [htg]; simp only [IntKind.wrap_u64]; omega
  have t9 : ((fl : Int) == 0) = false := beq_eq_false_iff_ne.2 (by omega)
  clear h1 hf htg
  unfold SigS.cells at *
  dsimp only at *
  go_enter Try.func5, Try.ntmps5
  go_wp2_with fail
  refine (N1.out _).mono ?_
  rintro e w1 ⟨rfl, h1⟩
  have G1 := Lib.hid (bel_to G0.out h1 G0.out.size)
  clear h1 G0
  go_wp2_with fail
  refine (HA.out _).mono ?_
  rintro e w2 ⟨rfl, h1⟩
  have G2 := Lib.hid (bel_to G1.out h1 G1.out.size)
  clear h1 G1
  go_wp2_with fail
  go_ret
  exact ⟨rfl, G2.out⟩

set_option maxRecDepth 100000 in
set_option maxHeartbeats 4000000 in
theorem quiet_p4 (fl tg rs : Nat) (W : World) (hx : SigS.ok ⟨false, false, false, false, fl, tg, 0, rs, 0, 1⟩) (h1 : 1 ≤ fl) (hf : fl ≤ 18446744073709551615) (htg : tg = fl - 1) :
    Calls Try.prog 5 #[.int .i64 4, .int .u64 (fl : Int), .int .u64 (rs : Int)] W fun e w' => e = .returned (.bool true) ∧ Below W.heap.size W w' := by
  have HA := Lib.hid (fun w => alive14 w)
  have N1 := Lib.hid (fun w => mo_Next 4 ⟨false, false, false, false, fl, tg, 0, rs, 0, 1⟩ hx w)
  clear hx
  generalize nextS 4 ⟨false, false, false, false, fl, tg, 0, rs, 0, 1⟩ = n at *
  have G0 := Lib.hid ((Below.refl W.heap.size W).alloc (Nat.le_refl _) (.cells (SigS.cells ⟨false, false, false, false, fl, tg, 0, rs, 0, 1⟩) 25))
  have hm : min (fl : Int) 1 = 1 := by omega
  have hm2 : IntKind.u64.wrap ((fl : Int) - 1) = ((tg : Nat) : Int) := by
    rw [htg]; simp only [IntKind.wrap_u64]; omega
  have t9 : ((fl : Int) == 0) = false := beq_eq_false_iff_ne.2 (by omega)
  clear h1 hf htg
  unfold SigS.cells at *
  dsimp only at *
  go_enter Try.func5, Try.ntmps5
  go_wp2_with fail
  refine (N1.out _).mono ?_
  rintro e w1 ⟨rfl, h1⟩
  have G1 := Lib.hid (bel_to G0.out h1 G0.out.size)
  clear h1 G0
  go_wp2_with fail
  refine (HA.out _).mono ?_
  rintro e w2 ⟨rfl, h1⟩
  have G2 := Lib.hid (bel_to G1.out h1 G1.out.size)
  clear h1 G1
  go_wp2_with fail
  go_ret
  exact ⟨rfl, G2.out⟩

set_option maxRecDepth 100000 in
set_option maxHeartbeats 4000000 in
theorem quiet_p5 (fl tg rs : Nat) (W : World) (hx : SigS.ok ⟨false, false, false, false, fl, tg, 0, rs, 0, 1⟩) (h1 : 1 ≤ fl) (hf : fl ≤ 18446744073709551615) (htg : tg = fl - 1) :
    Calls Try.prog 5 #[.int .i64 5, .int .u64 (fl : Int), .int .u64 (rs : Int)] W fun e w' => e = .returned (.bool true) ∧ Below W.heap.size W w' := by
  have HA := Lib.hid (fun w => alive14 w)
  have N1 := Lib.hid (fun w => mo_Next 5 ⟨false, false, false, false, fl, tg, 0, rs, 0, 1⟩ hx w)
  clear hx
  generalize nextS 5 ⟨false, false, false, false, fl, tg, 0, rs, 0, 1⟩ = n at *
  have G0 := Lib.hid ((Below.refl W.heap.size W).alloc (Nat.le_refl _) (.cells (SigS.cells ⟨false, false, false, false, fl, tg, 0, rs, 0, 1⟩) 25))
  have hm : min (fl : Int) 1 = 1 := by omega
  have hm2 : IntKind.u64.wrap ((fl : Int) - 1) = ((tg : Nat) : Int) := by
    rw [htg]; simp only [IntKind.wrap_u64]; omega
  have t9 : ((fl : Int) == 0) = false := beq_eq_false_iff_ne.2 (by omega)
  clear h1 hf htg
  unfold SigS.cells at *
  dsimp only at *
  go_enter Try.func5, Try.ntmps5
  go_wp2_with fail
  refine (N1.out _).mono ?_
  rintro e w1 ⟨rfl, h1⟩
  have G1 := Lib.hid (bel_to G0.out h1 G0.out.size)
  clear h1 G0
  go_wp2_with fail
  refine (HA.out _).mono ?_
  rintro e w2 ⟨rfl, h1⟩
  have G2 := Lib.hid (bel_to G1.out h1 G1.out.size)
  clear h1 G1
  go_wp2_with fail
  go_ret
  exact ⟨rfl, G2.out⟩

set_option maxRecDepth 100000 in
set_option maxHeartbeats 4000000 in
theorem quiet_p6 (fl tg rs : Nat) (W : World) (hx : SigS.ok ⟨false, false, false, false, fl, tg, 0, rs, 0, 1⟩) (h1 : 1 ≤ fl) (hf : fl ≤ 18446744073709551615) (htg : tg = fl - 1) :
    Calls Try.prog 5 #[.int .i64 6, .int .u64 (fl : Int), .int .u64 (rs : Int)] W fun e w' => e = .returned (.bool true) ∧ Below W.heap.size W w' := by
  have HA := Lib.hid (fun w => alive14 w)
  have N1 := Lib.hid (fun w => mo_Next 6 ⟨false, false, false, false, fl, tg, 0, rs, 0, 1⟩ hx w)
  clear hx
  rw [show nextS 6 ⟨false, false, false, false, fl, tg, 0, rs, 0, 1⟩ = 6 by rfl] at N1
  have G0 := Lib.hid ((Below.refl W.heap.size W).alloc (Nat.le_refl _) (.cells (SigS.cells ⟨false, false, false, false, fl, tg, 0, rs, 0, 1⟩) 25))
  have hm : min (fl : Int) 1 = 1 := by omega
  have hm2 : IntKind.u64.wrap ((fl : Int) - 1) = ((tg : Nat) : Int) := by
    rw [htg]; simp only [IntKind.wrap_u64]; omega
  have t9 : ((fl : Int) == 0) = false := beq_eq_false_iff_ne.2 (by omega)
  clear h1 hf htg
  unfold SigS.cells at *
  dsimp only at *
  go_enter Try.func5, Try.ntmps5
  go_wp2_with fail
  refine (N1.out _).mono ?_
  rintro e w1 ⟨rfl, h1⟩
  have G1 := Lib.hid (bel_to G0.out h1 G0.out.size)
  clear h1 G0
  go_wp2_with fail
  refine (HA.out _).mono ?_
  rintro e w2 ⟨rfl, h1⟩
  have G2 := Lib.hid (bel_to G1.out h1 G1.out.size)
  clear h1 G1
  go_wp2_with fail
  go_ret
  exact ⟨rfl, G2.out⟩

set_option maxRecDepth 100000 in
set_option maxHeartbeats 4000000 in
theorem quiet_po (s : Int) (fl tg rs : Nat) (W : World) (hx : SigS.ok ⟨false, false, false, false, fl, tg, 0, rs, 0, 1⟩) (h1 : 1 ≤ fl) (hf : fl ≤ 18446744073709551615) (htg : tg = fl - 1) (hs : s < 0 ∨ 6 < s) :
    Calls Try.prog 5 #[.int .i64 s, .int .u64 (fl : Int), .int .u64 (rs : Int)] W fun e w' => e = .returned (.bool true) ∧ Below W.heap.size W w' := by
  have HA := Lib.hid (fun w => alive14 w)
  have N1 := Lib.hid (fun w => mo_Next s ⟨false, false, false, false, fl, tg, 0, rs, 0, 1⟩ hx w)
  clear hx
  generalize nextS s ⟨false, false, false, false, fl, tg, 0, rs, 0, 1⟩ = n at *
  have G0 := Lib.hid ((Below.refl W.heap.size W).alloc (Nat.le_refl _) (.cells (SigS.cells ⟨false, false, false, false, fl, tg, 0, rs, 0, 1⟩) 25))
  have t0 : (s == 0) = false := beq_eq_false_iff_ne.2 (by omega)
  have t2 : (s == 2) = false := beq_eq_false_iff_ne.2 (by omega)
  have t3 : (s == 3) = false := beq_eq_false_iff_ne.2 (by omega)
  have t6 : (s == 6) = false := beq_eq_false_iff_ne.2 (by omega)
  have t1 : (s == 1) = false := beq_eq_false_iff_ne.2 (by omega)
  clear hs
  have hm : min (fl : Int) 1 = 1 := by omega
  have hm2 : IntKind.u64.wrap ((fl : Int) - 1) = ((tg : Nat) : Int) := by
    rw [htg]; simp only [IntKind.wrap_u64]; omega
  have t9 : ((fl : Int) == 0) = false := beq_eq_false_iff_ne.2 (by omega)
  clear h1 hf htg
  unfold SigS.cells at *
  dsimp only at *
  go_enter Try.func5, Try.ntmps5
  go_wp2_with fail
  refine (N1.out _).mono ?_
  rintro e w1 ⟨rfl, h1⟩
  have G1 := Lib.hid (bel_to G0.out h1 G0.out.size)
  clear h1 G0
  go_wp2_with fail
  refine (HA.out _).mono ?_
  rintro e w2 ⟨rfl, h1⟩
  have G2 := Lib.hid (bel_to G1.out h1 G1.out.size)
  clear h1 G1
  go_wp2_with fail
  go_ret
  exact ⟨rfl, G2.out⟩

theorem ModeQuiet_walk (s : Int) (fl rs : Nat) (W : World) (hs : (Lit.int .i64 s).wf = true) (hf : fl ≤ 18446744073709551615) (hr : rs ≤ 18446744073709551615) :
    Calls Try.prog 5 #[.int .i64 s, .int .u64 (fl : Int), .int .u64 (rs : Int)] W fun e w' => e = .returned (.bool true) ∧ Below W.heap.size W w' := by
  by_cases c : fl = 0
  · subst c
    have hx : SigS.ok ⟨false, false, false, false, 0, 0, 0, rs, 0, 1⟩ := ⟨by dsimp; omega, by dsimp; omega, by dsimp; omega, hr, by dsimp; omega, by dsimp; omega⟩
    clear hs
    revert s
    exact st_cases (quiet_z0 rs W hx) (quiet_z1 rs W hx) (quiet_z2 rs W hx) (quiet_z3 rs W hx) (quiet_z4 rs W hx) (quiet_z5 rs W hx) (quiet_z6 rs W hx) (fun s hs => quiet_zo s rs W hx hs)
  · obtain ⟨tg, htg⟩ : ∃ tg, tg = fl - 1 := ⟨_, rfl⟩
    have h1 : 1 ≤ fl := by omega
    have hx : SigS.ok ⟨false, false, false, false, fl, tg, 0, rs, 0, 1⟩ := ⟨hf, by dsimp; omega, by dsimp; omega, hr, by dsimp; omega, by dsimp; omega⟩
    clear hs
    revert s
    exact st_cases (quiet_p0 fl tg rs W hx h1 hf htg) (quiet_p1 fl tg rs W hx h1 hf htg) (quiet_p2 fl tg rs W hx h1 hf htg) (quiet_p3 fl tg rs W hx h1 hf htg) (quiet_p4 fl tg rs W hx h1 hf htg) (quiet_p5 fl tg rs W hx h1 hf htg) (quiet_p6 fl tg rs W hx h1 hf htg) (fun s hs => quiet_po s fl tg rs W hx h1 hf htg hs)
end Go.Proofs.Ytkgdfbiokgggmaa
