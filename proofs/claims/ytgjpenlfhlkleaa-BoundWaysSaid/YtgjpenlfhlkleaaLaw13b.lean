/- BoundTells over this translation: the walk. -/
import Derived.Test.YtgjpenlfhlkleaaLaw13a
import Derived.StillTailTactics
import Derived.Deep.RegionHeld3
set_option linter.unusedVariables false
namespace Go.Proofs.Ytgjpenlfhlkleaa
open Go.RowKit Pl

/-- What holds of the world all along: the boxes of the bounds and of the three numbers, and what was there. -/
structure TwI (W : World) (b : BS) (x0 x1 x2 : Nat) (w : World) : Prop where
  bel : Below W.heap.size W w
  bb : Blk w W.heap.size 24 b.cells
  bx : Blk w (W.heap.size + 1) 25 #[.int .u64 (x0 : Int), .int .u64 (x1 : Int), .int .u64 (x2 : Int)]
theorem TwI.to {W w w' : World} {b : BS} {x0 x1 x2 : Nat} (h : TwI W b x0 x1 x2 w) (k : Below w.heap.size w w') : TwI W b x0 x1 x2 w' := ⟨bel_to h.bel k h.bel.size, h.bb.keep k, h.bx.keep k⟩
theorem TwI.drew {W w : World} {b : BS} {x0 x1 x2 : Nat} (h : TwI W b x0 x1 x2 w) : TwI W b x0 x1 x2 w.drew := h.to ((Drawn.drew w).below _)
theorem TwI.start (W : World) (b : BS) (x0 x1 x2 : Nat) : TwI W b x0 x1 x2 ((W.alloc (.cells b.cells 24)).alloc (.cells #[.int .u64 (x0 : Int), .int .u64 (x1 : Int), .int .u64 (x2 : Int)] 25)) :=
  ⟨((Below.refl _ _).alloc (Nat.le_refl _) _).alloc (by simp) _, (Blk.new W _ _).alloc _, Blk.new1 W _ _ _⟩
/-- The same, and the document's bounds in a block of their own. -/
structure TrI (W : World) (b : BS) (x0 x1 x2 m : Nat) (w : World) : Prop where
  t : TwI W b x0 x1 x2 w
  bm : Blk w m 28 b.cells
theorem TrI.to {W w w' : World} {b : BS} {x0 x1 x2 m : Nat} (h : TrI W b x0 x1 x2 m w) (k : Below w.heap.size w w') : TrI W b x0 x1 x2 m w' := ⟨h.t.to k, h.bm.keep k⟩
theorem TrI.drew {W w : World} {b : BS} {x0 x1 x2 m : Nat} (h : TrI W b x0 x1 x2 m w) : TrI W b x0 x1 x2 m w.drew := h.to ((Drawn.drew w).below _)

/-- The nine cells that a region reads. -/
def Nine (W : World) (hi lo bw x0 x1 x2 m : Nat) (w : World) : Prop :=
  w.cell? ⟨W.heap.size, 0, none⟩ = some (.int .u64 (hi : Int)) ∧ w.cell? ⟨W.heap.size, 1, none⟩ = some (.int .u64 (lo : Int)) ∧ w.cell? ⟨W.heap.size, 2, none⟩ = some (.int .u64 (bw : Int)) ∧
  w.cell? ⟨W.heap.size + 1, 0, none⟩ = some (.int .u64 (x0 : Int)) ∧ w.cell? ⟨W.heap.size + 1, 1, none⟩ = some (.int .u64 (x1 : Int)) ∧ w.cell? ⟨W.heap.size + 1, 2, none⟩ = some (.int .u64 (x2 : Int)) ∧
  w.cell? ⟨m, 0, none⟩ = some (.int .u64 (hi : Int)) ∧ w.cell? ⟨m, 1, none⟩ = some (.int .u64 (lo : Int)) ∧ w.cell? ⟨m, 2, none⟩ = some (.int .u64 (bw : Int)) ∧ Hid (TrI W ⟨hi, lo, bw⟩ x0 x1 x2 m w)
theorem TrI.nine {W w : World} {hi lo bw x0 x1 x2 m : Nat} (h : TrI W ⟨hi, lo, bw⟩ x0 x1 x2 m w) : Nine W hi lo bw x0 x1 x2 m w :=
  ⟨h.t.bb.cell rfl, h.t.bb.cell rfl, h.t.bb.cell rfl, h.t.bx.cell rfl, h.t.bx.cell rfl, h.t.bx.cell rfl, h.bm.cell rfl, h.bm.cell rfl, h.bm.cell rfl, Lib.hid h⟩

theorem BoundTells_long (b : BS) (x0 x1 x2 : Nat) (v : Option Addr) (cap : Nat) (l : List Nat) (W : World) (h : 100 < l.length) :
    Calls Try.prog 3 #[.agg b.cells, .agg #[.int .u64 (x0 : Int), .int .u64 (x1 : Int), .int .u64 (x2 : Int)], .slice v l.length cap] W fun e w' => e = .returned (.bool true) ∧ Below W.heap.size W w' := by
  have HA := Lib.hid alive13
  have t : decide (100 < (l.length : Int)) = true := decide_eq_true (by omega)
  have I0 := Lib.hid (TwI.start W b x0 x1 x2)
  clear h
  obtain ⟨hi, lo, bw⟩ := b
  unfold BS.cells at *
  dsimp only at *
  go_enter Try.func3, Try.ntmps3
  go_wp2_with fail
  refine (HA.out _).mono ?_
  rintro e w1 ⟨rfl, h1⟩
  have I1 := Lib.hid (I0.out.to h1)
  clear h1 I0
  go_wp2_with fail
  go_ret
  exact ⟨rfl, I1.out.bel⟩

theorem nine_keep {W w w' : World} {hi lo bw x0 x1 x2 m : Nat} (h : Hid (TrI W ⟨hi, lo, bw⟩ x0 x1 x2 m w)) (k : Below w.heap.size w w') : Nine W hi lo bw x0 x1 x2 m w' := (h.out.to k).nine

set_option maxRecDepth 100000 in
set_option maxHeartbeats 8000000 in
theorem BoundTells_short (b : BS) (x0 x1 x2 : Nat) (v : Option Addr) (cap : Nat) (l : List Nat) (W : World) (h : l.length ≤ 100) (hb : b.ok) (h0 : x0 ≤ 18446744073709551615) (h1 : x1 ≤ 18446744073709551615) (h2 : x2 ≤ 18446744073709551615) (hv : NumsR W v l) :
    Calls Try.prog 3 #[.agg b.cells, .agg #[.int .u64 (x0 : Int), .int .u64 (x1 : Int), .int .u64 (x2 : Int)], .slice v l.length cap] W fun e w' => e = .returned (.bool true) ∧ Below W.heap.size W w' := by
  have HA := Lib.hid alive13
  have HV := Lib.hid hv
  have t : decide (100 < (l.length : Int)) = false := decide_eq_false (by omega)
  have I0 := Lib.hid (TwI.start W b x0 x1 x2)
  have L1 := Lib.hid (fun w => bd_Lose b x0 x1 x2 w hb h0 h1 h2)
  have L2 := Lib.hid (fun w => rb_Lose b x0 x1 x2 w hb h0 h1 h2)
  have P1 := Lib.hid (fun w => bd_Pull b x0 x1 w h0 h1)
  have P2 := Lib.hid (fun w => rb_Pull b x0 x1 w h0 h1)
  have U1 := Lib.hid (fun w => bd_Push b x2 w hb h2)
  have U2 := Lib.hid (fun w => rb_Push b x2 w hb h2)
  have S1 := Lib.hid (fun w => bd_Short b w)
  have C1 := Lib.hid (fun w hw => bd_Cap b v cap l w (by omega) hw)
  have C2 := Lib.hid (fun w hw => rb_Cap b v cap l w (by omega) hw)
  have R1 := Lib.hid (fun w => bd_Room b w hb)
  have R2 := Lib.hid (fun w => rb_Room b w hb)
  have M1 := Lib.hid (fun w => bd_Limit b x0 w)
  have HM : Hid (∀ p q : Prop, True) := Lib.hid (fun _ _ => trivial)
  have O0 := Lib.hid (fun w => law_of b w)
  have OL := Lib.hid (fun w => law_of (b.lose x0 x1 x2) w)
  have OP := Lib.hid (fun w => law_of (b.pull x0 x1) w)
  have OU := Lib.hid (fun w => law_of (b.push x2) w)
  have OS := Lib.hid (fun w => law_of b.short w)
  have EL := eq_ref13 (b.lose x0 x1 x2)
  have EP := eq_ref13 (b.pull x0 x1)
  have EU := eq_ref13 (b.push x2)
  have ES := eq_ref13 b.short
  have HLim : Hid ((b.limit x0 : Nat) = min x0 b.bw) := Lib.hid rfl
  unfold BS.cells at L1 L2 P1 P2 U1 U2 S1 C1 C2 R1 R2 M1 O0 OL OP OU OS
  generalize b.lose x0 x1 x2 = bl at *
  generalize b.pull x0 x1 = bp at *
  generalize b.push x2 = bu at *
  have hs0 : b.short.hi = b.hi := rfl
  have hs1 : b.short.lo = 18446744073709551615 := rfl
  have hs2 : b.short.bw = 18446744073709551615 := rfl
  rw [hs0, hs1, hs2, show ((18446744073709551615 : Nat) : Int) = 18446744073709551615 from rfl] at S1 OS
  have ES : ∀ w, (Op.equalIn 10000 28 (.agg #[.int .u64 (b.hi : Int), .int .u64 18446744073709551615, .int .u64 18446744073709551615]) (.agg #[.int .u64 (b.hi : Int), .int .u64 18446744073709551615, .int .u64 18446744073709551615])).run Try.prog w = .ok true w := ES
  clear hs0 hs1 hs2
  obtain ⟨hi, lo, bw⟩ := b
  obtain ⟨l0, l1, l2⟩ := bl
  obtain ⟨p0, p1, p2⟩ := bp
  obtain ⟨u0, u1, u2⟩ := bu
  unfold BS.cells at I0 ⊢
  dsimp only at *
  generalize BS.cap ⟨hi, lo, bw⟩ l = cp at *
  generalize BS.room ⟨hi, lo, bw⟩ = rm at *
  generalize BS.limit ⟨hi, lo, bw⟩ x0 = lm at *
  have HLm : Hid (min (x0 : Int) (bw : Int) = (lm : Int)) := Lib.hid (by have := HLim.out; omega)
  clear h hb h0 h1 h2 hv HM HLim
  go_enter Try.func3, Try.ntmps3
  go_wp2_with fail
  refine (O0.out _).mono ?_
  rintro e w1 ⟨rfl, k⟩
  have I1 := Lib.hid (I0.out.to k)
  have J0 : Hid (TrI W ⟨hi, lo, bw⟩ x0 x1 x2 w1.heap.size (w1.alloc (.cells (BS.cells ⟨hi, lo, bw⟩) 28))) := Lib.hid ⟨I1.out.to ((Below.refl _ _).alloc (Nat.le_refl _) _), Blk.new _ _ _⟩
  unfold BS.cells at J0
  dsimp only at J0
  clear k I0 I1 O0
  go_upto_region 4 with fail
  go_cut [8] from 18 to 35 (fun v wx => v = .bool true ∧ TrI W ⟨hi, lo, bw⟩ x0 x1 x2 w1.heap.size wx)
  case first =>
    have J1 := Lib.hid J0.out.drew
    obtain ⟨c0, c1, c2, c3, c4, c5, c6, c7, c8, -⟩ := J1.out.nine
    go_region_held3 (fun w' => w'.cell? ⟨W.heap.size, 0, none⟩ = some (.int .u64 (hi : Int)) ∧ w'.cell? ⟨W.heap.size, 1, none⟩ = some (.int .u64 (lo : Int)) ∧ w'.cell? ⟨W.heap.size, 2, none⟩ = some (.int .u64 (bw : Int)) ∧ w'.cell? ⟨W.heap.size + 1, 0, none⟩ = some (.int .u64 (x0 : Int)) ∧ w'.cell? ⟨W.heap.size + 1, 1, none⟩ = some (.int .u64 (x1 : Int)) ∧ w'.cell? ⟨W.heap.size + 1, 2, none⟩ = some (.int .u64 (x2 : Int)) ∧ w'.cell? ⟨w1.heap.size, 0, none⟩ = some (.int .u64 (hi : Int)) ∧ w'.cell? ⟨w1.heap.size, 1, none⟩ = some (.int .u64 (lo : Int)) ∧ w'.cell? ⟨w1.heap.size, 2, none⟩ = some (.int .u64 (bw : Int)) ∧ Hid (TrI W ⟨hi, lo, bw⟩ x0 x1 x2 w1.heap.size w'))
      (first | exact J1.out.nine | exact nine_keep (by assumption) hb)
      (first | (go_at_call 7; go_split_ands; (with_reducible refine (L1.out _).mono ?_); rintro e w' ⟨rfl, hb⟩) | (go_at_call 8; go_split_ands; (with_reducible refine (L2.out _).mono ?_); rintro e w' ⟨rfl, hb⟩) | (go_at_call 6; go_split_ands; (with_reducible refine (OL.out _).mono ?_); rintro e w' ⟨rfl, hb⟩))
    all_goals
      go_split_ands
      have E := Lib.hid ((‹Hid (TrI W ⟨hi, lo, bw⟩ x0 x1 x2 w1.heap.size _)›).out)
      go_wp2_with fail
      go_meet
      exact ⟨rfl, E.out⟩
  case rest =>
    obtain ⟨rfl, hI⟩ := hcut
    clear J0
    have J0 := Lib.hid hI
    clear hI
    go_upto_region 5 with fail
    go_cut [9] from 36 to 49 (fun v wx => v = .bool true ∧ TrI W ⟨hi, lo, bw⟩ x0 x1 x2 w1.heap.size wx)
    case first =>
      have J1 := Lib.hid J0.out.drew
      obtain ⟨c0, c1, c2, c3, c4, c5, c6, c7, c8, -⟩ := J1.out.nine
      go_region_held3 (fun w' => w'.cell? ⟨W.heap.size, 0, none⟩ = some (.int .u64 (hi : Int)) ∧ w'.cell? ⟨W.heap.size, 1, none⟩ = some (.int .u64 (lo : Int)) ∧ w'.cell? ⟨W.heap.size, 2, none⟩ = some (.int .u64 (bw : Int)) ∧ w'.cell? ⟨W.heap.size + 1, 0, none⟩ = some (.int .u64 (x0 : Int)) ∧ w'.cell? ⟨W.heap.size + 1, 1, none⟩ = some (.int .u64 (x1 : Int)) ∧ w'.cell? ⟨W.heap.size + 1, 2, none⟩ = some (.int .u64 (x2 : Int)) ∧ w'.cell? ⟨w1.heap.size, 0, none⟩ = some (.int .u64 (hi : Int)) ∧ w'.cell? ⟨w1.heap.size, 1, none⟩ = some (.int .u64 (lo : Int)) ∧ w'.cell? ⟨w1.heap.size, 2, none⟩ = some (.int .u64 (bw : Int)) ∧ Hid (TrI W ⟨hi, lo, bw⟩ x0 x1 x2 w1.heap.size w'))
        (first | exact J1.out.nine | exact nine_keep (by assumption) hb)
        (first | (go_at_call 9; go_split_ands; (with_reducible refine (P1.out _).mono ?_); rintro e w' ⟨rfl, hb⟩) | (go_at_call 10; go_split_ands; (with_reducible refine (P2.out _).mono ?_); rintro e w' ⟨rfl, hb⟩) | (go_at_call 6; go_split_ands; (with_reducible refine (OP.out _).mono ?_); rintro e w' ⟨rfl, hb⟩))
      all_goals
        go_split_ands
        have E := Lib.hid ((‹Hid (TrI W ⟨hi, lo, bw⟩ x0 x1 x2 w1.heap.size _)›).out)
        go_wp2_with fail
        go_meet
        exact ⟨rfl, E.out⟩
    case rest =>
      obtain ⟨rfl, hI⟩ := hcut
      clear J0
      have J0 := Lib.hid hI
      clear hI
      go_upto_region 6 with fail
      go_cut [10] from 50 to 59 (fun v wx => v = .bool true ∧ TrI W ⟨hi, lo, bw⟩ x0 x1 x2 w1.heap.size wx)
      case first =>
        have J1 := Lib.hid J0.out.drew
        obtain ⟨c0, c1, c2, c3, c4, c5, c6, c7, c8, -⟩ := J1.out.nine
        go_region_held3 (fun w' => w'.cell? ⟨W.heap.size, 0, none⟩ = some (.int .u64 (hi : Int)) ∧ w'.cell? ⟨W.heap.size, 1, none⟩ = some (.int .u64 (lo : Int)) ∧ w'.cell? ⟨W.heap.size, 2, none⟩ = some (.int .u64 (bw : Int)) ∧ w'.cell? ⟨W.heap.size + 1, 0, none⟩ = some (.int .u64 (x0 : Int)) ∧ w'.cell? ⟨W.heap.size + 1, 1, none⟩ = some (.int .u64 (x1 : Int)) ∧ w'.cell? ⟨W.heap.size + 1, 2, none⟩ = some (.int .u64 (x2 : Int)) ∧ w'.cell? ⟨w1.heap.size, 0, none⟩ = some (.int .u64 (hi : Int)) ∧ w'.cell? ⟨w1.heap.size, 1, none⟩ = some (.int .u64 (lo : Int)) ∧ w'.cell? ⟨w1.heap.size, 2, none⟩ = some (.int .u64 (bw : Int)) ∧ Hid (TrI W ⟨hi, lo, bw⟩ x0 x1 x2 w1.heap.size w'))
          (first | exact J1.out.nine | exact nine_keep (by assumption) hb)
          (first | (go_at_call 11; go_split_ands; (with_reducible refine (U1.out _).mono ?_); rintro e w' ⟨rfl, hb⟩) | (go_at_call 12; go_split_ands; (with_reducible refine (U2.out _).mono ?_); rintro e w' ⟨rfl, hb⟩) | (go_at_call 6; go_split_ands; (with_reducible refine (OU.out _).mono ?_); rintro e w' ⟨rfl, hb⟩))
        all_goals
          go_split_ands
          have E := Lib.hid ((‹Hid (TrI W ⟨hi, lo, bw⟩ x0 x1 x2 w1.heap.size _)›).out)
          go_wp2_with fail
          go_meet
          exact ⟨rfl, E.out⟩
      case rest =>
        obtain ⟨rfl, hI⟩ := hcut
        clear J0
        have J0 := Lib.hid hI
        clear hI
        go_upto_region 7 with fail
        go_cut [11] from 60 to 66 (fun v wx => v = .bool true ∧ TrI W ⟨hi, lo, bw⟩ x0 x1 x2 w1.heap.size wx)
        case first =>
          have J1 := Lib.hid J0.out.drew
          obtain ⟨c0, c1, c2, c3, c4, c5, c6, c7, c8, -⟩ := J1.out.nine
          go_region_held3 (fun w' => w'.cell? ⟨W.heap.size, 0, none⟩ = some (.int .u64 (hi : Int)) ∧ w'.cell? ⟨W.heap.size, 1, none⟩ = some (.int .u64 (lo : Int)) ∧ w'.cell? ⟨W.heap.size, 2, none⟩ = some (.int .u64 (bw : Int)) ∧ w'.cell? ⟨W.heap.size + 1, 0, none⟩ = some (.int .u64 (x0 : Int)) ∧ w'.cell? ⟨W.heap.size + 1, 1, none⟩ = some (.int .u64 (x1 : Int)) ∧ w'.cell? ⟨W.heap.size + 1, 2, none⟩ = some (.int .u64 (x2 : Int)) ∧ w'.cell? ⟨w1.heap.size, 0, none⟩ = some (.int .u64 (hi : Int)) ∧ w'.cell? ⟨w1.heap.size, 1, none⟩ = some (.int .u64 (lo : Int)) ∧ w'.cell? ⟨w1.heap.size, 2, none⟩ = some (.int .u64 (bw : Int)) ∧ Hid (TrI W ⟨hi, lo, bw⟩ x0 x1 x2 w1.heap.size w'))
            (first | exact J1.out.nine | exact nine_keep (by assumption) hb)
            (first | (go_at_call 13; go_split_ands; (with_reducible refine (S1.out _).mono ?_); rintro e w' ⟨rfl, hb⟩) | (go_at_call 6; go_split_ands; (with_reducible refine (OS.out _).mono ?_); rintro e w' ⟨rfl, hb⟩))
          all_goals
            go_split_ands
            have E := Lib.hid ((‹Hid (TrI W ⟨hi, lo, bw⟩ x0 x1 x2 w1.heap.size _)›).out)
            go_wp2_with fail
            go_meet
            exact ⟨rfl, E.out⟩
        case rest =>
          obtain ⟨rfl, hI⟩ := hcut
          clear J0
          have J0 := Lib.hid hI
          clear hI
          have J1 := Lib.hid J0.out.drew
          obtain ⟨c0, c1, c2, c3, c4, c5, c6, c7, c8, -⟩ := J1.out.nine
          go_upto_region 8 with fail
          go_region_held3 (fun w' => w'.cell? ⟨W.heap.size, 0, none⟩ = some (.int .u64 (hi : Int)) ∧ w'.cell? ⟨W.heap.size, 1, none⟩ = some (.int .u64 (lo : Int)) ∧ w'.cell? ⟨W.heap.size, 2, none⟩ = some (.int .u64 (bw : Int)) ∧ w'.cell? ⟨W.heap.size + 1, 0, none⟩ = some (.int .u64 (x0 : Int)) ∧ w'.cell? ⟨W.heap.size + 1, 1, none⟩ = some (.int .u64 (x1 : Int)) ∧ w'.cell? ⟨W.heap.size + 1, 2, none⟩ = some (.int .u64 (x2 : Int)) ∧ w'.cell? ⟨w1.heap.size, 0, none⟩ = some (.int .u64 (hi : Int)) ∧ w'.cell? ⟨w1.heap.size, 1, none⟩ = some (.int .u64 (lo : Int)) ∧ w'.cell? ⟨w1.heap.size, 2, none⟩ = some (.int .u64 (bw : Int)) ∧ Hid (TrI W ⟨hi, lo, bw⟩ x0 x1 x2 w1.heap.size w'))
            (first | exact J1.out.nine | exact nine_keep (by assumption) hb)
            (first
              | (go_at_call 5; go_split_ands; (with_reducible refine (HA.out _).mono ?_); rintro e w' ⟨rfl, hb⟩)
              | (go_at_call 14; go_split_ands; (with_reducible refine (C1.out _ (HV.out.keep (Hid.out (by assumption) : TrI W ⟨hi, lo, bw⟩ x0 x1 x2 w1.heap.size _).t.bel)).mono ?_); rintro e w' ⟨rfl, hb⟩)
              | (go_at_call 15; go_split_ands; (with_reducible refine (C2.out _ (HV.out.keep (Hid.out (by assumption) : TrI W ⟨hi, lo, bw⟩ x0 x1 x2 w1.heap.size _).t.bel)).mono ?_); rintro e w' ⟨rfl, hb⟩)
              | (go_at_call 16; go_split_ands; (with_reducible refine (R1.out _).mono ?_); rintro e w' ⟨rfl, hb⟩)
              | (go_at_call 17; go_split_ands; (with_reducible refine (R2.out _).mono ?_); rintro e w' ⟨rfl, hb⟩)
              | (go_at_call 18; go_split_ands; (with_reducible refine (M1.out _).mono ?_); rintro e w' ⟨rfl, hb⟩))
          all_goals
            go_split_ands
            have E := Lib.hid ((‹Hid (TrI W ⟨hi, lo, bw⟩ x0 x1 x2 w1.heap.size _)›).out)
            go_wp2_with fail
            rw [HLm.out]
            go_ret
            exact ⟨by simp, E.out.t.bel⟩
end Go.Proofs.Ytgjpenlfhlkleaa
