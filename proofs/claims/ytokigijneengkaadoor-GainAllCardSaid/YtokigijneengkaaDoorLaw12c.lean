/- GainAll over this translation: the walk. -/
import Derived.Test.YtokigijneengkaaDoorLaw12a
import Derived.StillTailTactics
import Derived.Deep.RegionHeld3
set_option linter.unusedVariables false
namespace Go.Proofs.YtokigijneengkaaDoor
open Go.RowKit Go.Maps Pl

theorem seven2 {P : Nat → Nat → Prop} {k : Nat} (hk : k < 7) (h : ∀ r, r ≤ 277 → P k r) : P k (rateG k) := h _ (rateG_le k)
theorem paceG_eq (k a : Nat) (ha : a < 72057594037927936) : paceG k a = a * rateG k / 100 := by
  unfold paceG shareS
  rw [if_neg (by omega), Nat.min_eq_left]
  have h := rateG_le k
  generalize rateG k = r at *
  have : a * r ≤ a * 277 := Nat.mul_le_mul_left a h
  omega
theorem pace_sum (k a b : Nat) (ha : a < 36028797018963968) (hb : b < 36028797018963968) :
    paceG k a + paceG k b ≤ paceG k (a + b) ∧ paceG k (a + b) ≤ paceG k a + paceG k b + 1 ∧ paceG k (a + b) < 9223372036854775808 := by
  rw [paceG_eq k a (by omega), paceG_eq k b (by omega), paceG_eq k (a + b) (by omega), Nat.add_mul]
  have h := rateG_le k
  generalize rateG k = r at *
  have h1 : a * r ≤ a * 277 := Nat.mul_le_mul_left a h
  have h2 : b * r ≤ b * 277 := Nat.mul_le_mul_left b h
  generalize a * r = x at *
  generalize b * r = y at *
  omega
theorem window_up (k a b : Nat) : windowG k a ≤ windowG k (a + b) := by
  unfold windowG overS
  rw [if_neg (by omega), if_neg (by omega), Nat.add_mul]
  generalize a * flightG k = x at *
  generalize b * flightG k = y at *
  omega

def stCells : Array Value := #[.int .i64 0, .int .i64 1, .int .i64 2, .int .i64 3, .int .i64 4, .int .i64 5, .int .i64 6]
theorem stCells_at : ∀ k : Nat, k < 7 → stCells[k]? = some (.int .i64 (k : Int)) := seven rfl rfl rfl rfl rfl rfl rfl

/-- What holds of the world all along: the call's own row of states, and what was there. -/
structure AllI (W w : World) : Prop where
  gl : Gl W
  bel : Below W.heap.size W w
  blk : Blk w W.heap.size 22 stCells
theorem AllI.to {W w w' : World} (h : AllI W w) (b : Below w.heap.size w w') : AllI W w' := ⟨h.gl, bel_to h.bel b h.bel.size, h.blk.keep b⟩
theorem AllI.now {W w : World} (h : AllI W w) : Gl w := h.gl.keep h.bel
theorem AllI.cell {W w : World} (h : AllI W w) (k : Nat) (hk : k < 7) : w.cell? ⟨W.heap.size, k, none⟩ = some (.int .i64 (k : Int)) := h.blk.cell (stCells_at k hk)
theorem AllI.drew {W w : World} (h : AllI W w) : AllI W w.drew := h.to ((Drawn.drew w).below _)

set_option maxHeartbeats 1000000 in
theorem all_big (a b : Nat) (ha : a ≤ 18446744073709551615) (hb : b ≤ 18446744073709551615) (h : ¬ (a < 36028797018963968 ∧ b < 36028797018963968)) (w : World) (hg : Gl w) :
    Calls Tryd.prog 5 #[.int .u64 (a : Int), .int .u64 (b : Int)] w fun e w' => e = .returned (.bool true) ∧ Below w.heap.size w w' := by
  have HL := Lib.hid (ga_All w)
  have HA := Lib.hid (fun w hw => alive12 w hw)
  have HG := Lib.hid (hg.alloc (.cells stCells 22))
  have G0 := Lib.hid ((Below.refl w.heap.size w).alloc (Nat.le_refl _) (.cells stCells 22))
  rw [show (#[.int .i64 0, .int .i64 1, .int .i64 2, .int .i64 3, .int .i64 4, .int .i64 5, .int .i64 6] : Array Value) = stCells from rfl] at HL
  generalize stCells = cs at *
  clear hg
  by_cases h0 : a < 36028797018963968
  · have h1 : ¬ b < 36028797018963968 := fun k => h ⟨h0, k⟩
    have t0 : decide ((36028797018963968 : Int) ≤ (a : Int)) = false := decide_eq_false (by omega)
    have t1 : decide ((36028797018963968 : Int) ≤ (b : Int)) = true := decide_eq_true (by omega)
    clear h0 h1 h ha hb
    go_enter Tryd.func5, Tryd.ntmps5
    go_wp2_with fail
    refine (HL.out).mono ?_
    rintro e w1 ⟨rfl, rfl⟩
    go_wp2_with fail
    refine (HA.out _ HG.out).mono ?_
    rintro e w1 ⟨rfl, h1⟩
    have G1 := Lib.hid (bel_to G0.out h1 G0.out.size)
    clear h1
    go_wp2_with fail
    go_ret
    exact ⟨rfl, G1.out⟩
  · have t0 : decide ((36028797018963968 : Int) ≤ (a : Int)) = true := decide_eq_true (by omega)
    clear h0 h ha hb
    go_enter Tryd.func5, Tryd.ntmps5
    go_wp2_with fail
    refine (HL.out).mono ?_
    rintro e w1 ⟨rfl, rfl⟩
    go_wp2_with fail
    refine (HA.out _ HG.out).mono ?_
    rintro e w1 ⟨rfl, h1⟩
    have G1 := Lib.hid (bel_to G0.out h1 G0.out.size)
    clear h1
    go_wp2_with fail
    go_ret
    exact ⟨rfl, G1.out⟩

theorem nmB_size : ∀ k, k < 7 → (nmB k).size ≤ maxLen := seven (by decide) (by decide) (by decide) (by decide) (by decide) (by decide) (by decide)
theorem par_nm (k : Nat) (hk : k < 7) : parS (nmB k).data.toList = k ∧ parE (nmB k).data.toList = 0 := by
  rw [show (nmB k).data.toList = nmG k from rfl]
  unfold parS parE
  rw [idx_nm k hk, if_pos hk, if_pos hk]
  exact ⟨rfl, rfl⟩
/-- There and back, at a state. -/
theorem ga_back (k : Nat) (hk : k < 7) (w : World) :
    Calls Tryd.prog 15 #[.string (nmB k)] w fun e w' => e = .returned (.tuple #[.int .i64 (k : Int), .int .i64 0]) ∧ Below w.heap.size w w' := by
  have h := ga_Parse (nmB k) (nmB_size k hk) w
  rw [(par_nm k hk).1, (par_nm k hk).2] at h
  exact h
theorem held_keep {W w w' : World} {k : Nat} (hk : k < 7) (h : Hid (AllI W w)) (b : Below w.heap.size w w') : w'.cell? ⟨W.heap.size, k, none⟩ = some (.int .i64 (k : Int)) ∧ Hid (AllI W w') :=
  ⟨(h.out.to b).cell k hk, Lib.hid (h.out.to b)⟩

set_option maxRecDepth 100000 in
set_option maxHeartbeats 4000000 in
theorem all_small (a b : Nat) (ha : a < 36028797018963968) (hb : b < 36028797018963968) (W : World) (hg : Gl W) :
    Calls Tryd.prog 5 #[.int .u64 (a : Int), .int .u64 (b : Int)] W fun e w' => e = .returned (.bool true) ∧ Below W.heap.size W w' := by
  have HL := Lib.hid (ga_All W)
  have HA := Lib.hid (fun w hw => alive12 w hw)
  have HI : Hid (AllI W (W.alloc (.cells stCells 22))) := Lib.hid ⟨hg, (Below.refl W.heap.size W).alloc (Nat.le_refl _) _, Blk.new W _ _⟩
  rw [show (#[.int .i64 0, .int .i64 1, .int .i64 2, .int .i64 3, .int .i64 4, .int .i64 5, .int .i64 6] : Array Value) = stCells from rfl] at HL
  have t0 : decide ((36028797018963968 : Int) ≤ (a : Int)) = false := decide_eq_false (by omega)
  have t1 : decide ((36028797018963968 : Int) ≤ (b : Int)) = false := decide_eq_false (by omega)
  have HSum := Lib.hid (fun k => pace_sum k a b ha hb)
  have HUp := Lib.hid (fun k => window_up k a b)
  have hadd : IntKind.u64.wrap ((a : Int) + (b : Int)) = ((a + b : Nat) : Int) := by rw [IntKind.wrap_u64]; omega
  have Ba : Hid (a ≤ 18446744073709551615) := Lib.hid (by omega)
  have Bb : Hid (b ≤ 18446744073709551615) := Lib.hid (by omega)
  have Bc : Hid (a + b ≤ 18446744073709551615) := Lib.hid (by omega)
  generalize a + b = c at *
  clear hg ha hb
  go_enter Tryd.func5, Tryd.ntmps5
  go_wp2_with fail
  refine (HL.out).mono ?_
  rintro e w1 ⟨rfl, hw1⟩
  rw [hw1] at HI
  clear hw1 HL
  go_wp2_with fail
  go_loopw [6] (fun i wr => ∃ k : Nat, i = .int .i64 (k : Int) ∧ k ≤ 7 ∧ AllI W wr) (fun i _ => 7 - (intOf i).toNat)
  case atStart => exact ⟨0, rfl, by omega, HI.out⟩
  case round =>
    obtain ⟨k, rfl, hk, hI⟩ := hrel
    have A1 := Lib.hid hI
    clear hI HI
    by_cases hlt : k < 7
    · have HK := Lib.hid hlt
      have i0 : (0 : Int) ≤ (k : Int) := by omega
      have i1 : (k : Int) < 7 := by omega
      have c0 := A1.out.cell k hlt
      have HN := Lib.hid (fun w => ga_Name (k : Int) w)
      rw [stG_in k hlt] at HN
      have HP := Lib.hid (fun w => ga_back k hlt w)
      have HRt : Hid (∀ w, Gl w → Calls Tryd.prog 7 #[.int .i64 (k : Int)] w fun e w' => e = .returned (.bool true) ∧ Below w.heap.size w w') := Lib.hid (fun w hw => by have h := ga_Right (k : Int) w hw; rw [stG_in k hlt, decide_eq_true hlt] at h; exact h)
      have HPa := Lib.hid (fun w hw => ga_Pace (k : Int) a Ba.out w hw)
      have HPb := Lib.hid (fun w hw => ga_Pace (k : Int) b Bb.out w hw)
      have HPc := Lib.hid (fun w hw => ga_Pace (k : Int) c Bc.out w hw)
      have HWa := Lib.hid (fun w hw => ga_Window (k : Int) a Ba.out w hw)
      have HWc := Lib.hid (fun w hw => ga_Window (k : Int) c Bc.out w hw)
      rw [stG_in k hlt] at HPa HPb HPc HWa HWc
      have HS := Lib.hid (HSum.out k)
      have HU := Lib.hid (HUp.out k)
      have HIL := Lib.hid (show k + 1 ≤ 7 by omega)
      generalize nmB k = nb at *
      generalize paceG k a = x at *
      generalize paceG k b = y at *
      generalize paceG k c = z at *
      generalize windowG k a = va at *
      generalize windowG k c = vc at *
      have hxy : IntKind.u64.wrap ((x : Int) + (y : Int)) = ((x + y : Nat) : Int) := by have := HS.out; rw [IntKind.wrap_u64]; omega
      have hxy1 : IntKind.u64.wrap (((x + y : Nat) : Int) + 1) = ((x + y + 1 : Nat) : Int) := by have := HS.out; rw [IntKind.wrap_u64]; omega
      have tz0 : decide (z < x + y) = false := decide_eq_false (by have := HS.out; omega)
      have tz1 : decide (x + y + 1 < z) = false := decide_eq_false (by have := HS.out; omega)
      have tv : decide (vc < va) = false := decide_eq_false (by have := HU.out; omega)
      generalize x + y + 1 = n at *
      generalize x + y = m at *
      clear hlt hk HS HU HSum HUp
      go_wp2_with fail
      refine (HN.out _).mono ?_
      rintro e w1 ⟨rfl, h1⟩
      have A2 := Lib.hid (A1.out.to h1)
      clear h1 A1 c0 HN
      go_wp2_with fail
      refine (HP.out _).mono ?_
      rintro e w2 ⟨rfl, h1⟩
      have A3 := Lib.hid (A2.out.to h1)
      have c0 := A3.out.cell k HK.out
      clear h1 A2 HP
      go_wp2_with fail
      refine (HPa.out _ A3.out.now).mono ?_
      rintro e w3 ⟨rfl, h1⟩
      have A4 := Lib.hid (A3.out.to h1)
      clear c0
      have c0 := A4.out.cell k HK.out
      clear h1 A3 HPa
      go_wp2_with fail
      refine (HPb.out _ A4.out.now).mono ?_
      rintro e w4 ⟨rfl, h1⟩
      have A5 := Lib.hid (A4.out.to h1)
      clear c0
      have c0 := A5.out.cell k HK.out
      clear h1 A4 HPb
      go_wp2_with fail
      refine (HPc.out _ A5.out.now).mono ?_
      rintro e w5 ⟨rfl, h1⟩
      have A6 := Lib.hid (A5.out.to h1)
      clear c0
      have A7 := Lib.hid A6.out.drew
      have c0 := A7.out.cell k HK.out
      clear h1 A5 HPc
      go_wp2_with fail
      go_region_held3 (fun w' => w'.cell? ⟨W.heap.size, k, none⟩ = some (.int .i64 (k : Int)) ∧ Hid (AllI W w'))
        (first | exact ⟨c0, A7⟩ | exact held_keep HK.out (by assumption) hb)
        (first
          | (go_at_call 7; go_split_ands; refine (HRt.out _ (Hid.out (by assumption) : AllI W _).now).mono ?_; rintro e w' ⟨rfl, hb⟩)
          | (go_at_call 13; go_split_ands; (with_reducible refine (HWa.out _ (Hid.out (by assumption) : AllI W _).now).mono ?_); rintro e w' ⟨rfl, hb⟩)
          | (go_at_call 13; go_split_ands; (with_reducible refine (HWc.out _ (Hid.out (by assumption) : AllI W _).now).mono ?_); rintro e w' ⟨rfl, hb⟩))
      go_split_ands
      have E := Lib.hid ((‹Hid (AllI W w')›).out)
      clear HRt HWa HWc A6 A7 c0 hb
      go_wp2_with fail
      go_roundw
      case rel => exact ⟨k + 1, by go_num, HIL.out, E.out⟩
      case measure => simp [intOf]; have := HK.out; omega
    · obtain rfl : k = 7 := by omega
      have HR7 : Hid (∀ w, Gl w → Calls Tryd.prog 7 #[.int .i64 7] w fun e w' => e = .returned (.bool false) ∧ Below w.heap.size w w') := Lib.hid (fun w hw => ga_Right 7 w hw)
      have HRn : Hid (∀ w, Gl w → Calls Tryd.prog 7 #[.int .i64 (-1)] w fun e w' => e = .returned (.bool false) ∧ Below w.heap.size w w') := Lib.hid (fun w hw => ga_Right (-1) w hw)
      clear hlt hk
      go_wp2_with fail
      refine (HA.out _ A1.out.now).mono ?_
      rintro e w2 ⟨rfl, h1⟩
      have A2 := Lib.hid (A1.out.to h1)
      clear h1
      go_wp2_with fail
      refine (HR7.out _ A2.out.now).mono ?_
      rintro e w3 ⟨rfl, h1⟩
      have A3 := Lib.hid (A2.out.to h1)
      clear h1
      go_wp2_with fail
      refine (HRn.out _ A3.out.now).mono ?_
      rintro e w4 ⟨rfl, h1⟩
      have A4 := Lib.hid (A3.out.to h1)
      clear h1
      go_wp2_with fail
      go_ret
      exact ⟨rfl, A4.out.bel⟩

theorem GainAll_walk (a b : Nat) (ha : a ≤ 18446744073709551615) (hb : b ≤ 18446744073709551615) (w : World) (hg : Gl w) :
    Calls Tryd.prog 5 #[.int .u64 (a : Int), .int .u64 (b : Int)] w fun e w' => e = .returned (.bool true) ∧ Below w.heap.size w w' := by
  by_cases h : a < 36028797018963968 ∧ b < 36028797018963968
  · exact all_small a b h.1 h.2 w hg
  · exact all_big a b ha hb h w hg
end Go.Proofs.YtokigijneengkaaDoor
