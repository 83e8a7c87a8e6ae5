/- The live question of layer 11 is answered as it is fixed, over this translation. -/
import Derived.Test.YtdokacilgdcnjaaWb
import Derived.Deep.RegionHeld3
set_option linter.unusedVariables false
namespace Go.Proofs.Ytdokacilgdcnjaa
open Go.RowKit Pl

/-- A block of the call's own, and what was there before. -/
structure Own (w : World) (b : Nat) (T : TypeId) (cs : Array Value) (wr : World) : Prop where
  blk : Blk wr b T cs
  lo : w.heap.size ≤ b
  bel : Below w.heap.size w wr
theorem Own.new {w a : World} (h : Below w.heap.size w a) (T : TypeId) (cs : Array Value) : Own w a.heap.size T cs (a.alloc (.cells cs T)) := ⟨Blk.new _ _ _, h.size, h.alloc h.size _⟩
theorem Own.gr {w a a' : World} {b : Nat} {T : TypeId} {cs cs' : Array Value} (h : Own w b T cs a) (hb : Blk a' b T cs') (g : a.grownBy a' (some b)) : Own w b T cs' a' := ⟨hb, h.lo, bel_gr h.bel g h.bel.size h.lo⟩
theorem Own.keep {w a a' : World} {b : Nat} {T : TypeId} {cs : Array Value} (h : Own w b T cs a) (k : Below a.heap.size a a') : Own w b T cs a' := ⟨h.blk.keep k, h.lo, bel_to h.bel k h.bel.size⟩
theorem Own.other {w a a' : World} {b c : Nat} {T : TypeId} {cs : Array Value} (h : Own w b T cs a) (g : a.grownBy a' (some c)) (hc : w.heap.size ≤ c) (hne : b ≠ c) : Own w b T cs a' := ⟨h.blk.grown g (by intro e; injection e with e; exact hne e), h.lo, bel_gr h.bel g h.bel.size hc⟩
theorem Own.drew {w a : World} {b : Nat} {T : TypeId} {cs : Array Value} (h : Own w b T cs a) (n : Nat) : Own w b T cs (a.drewN n) := h.keep (Drawn.below ⟨n, rfl⟩ _)

theorem al11_1 : grownB 100 0 = true := by decide
theorem al11_2 : grownB 124 100 = false := by decide
theorem al11_3 : grownB 130 100 = true := by decide
theorem al11_4 : grownB 150 130 = false := by decide

set_option maxHeartbeats 2000000 in
theorem alive11 (w : World) : Calls Try.prog 5 #[] w fun e w' => e = .returned (.bool true) ∧ Below w.heap.size w w' := by
  have H0 : Hid (Own w w.heap.size 45 Ct.zero.cells (w.alloc (.cells Ct.zero.cells 45))) := Lib.hid (Own.new (Below.refl _ _) _ _)
  have HN := Lib.hid (ct_New w)
  go_enter Try.func5, Try.ntmps5
  go_wp2_with fail
  refine (HN.out).mono ?_
  rintro e w0 ⟨rfl, hw0⟩
  rw [hw0] at H0
  clear hw0 HN
  go_wp2_with fail
  refine (ct_Ack _ 0 100 ⟨0, 0⟩ _ H0.out.blk (by decide)).mono ?_
  rintro e w1 ⟨rfl, h1, g1⟩
  have H1 := Lib.hid (H0.out.gr h1 g1)
  clear H0 h1 g1
  go_wp2_with fail
  refine (ct_Ack _ 99 200 ⟨100, 1⟩ _ H1.out.blk (by decide)).mono ?_
  rintro e w2 ⟨rfl, h2, g2⟩
  have H2 := Lib.hid (H1.out.gr h2 g2)
  clear H1 h2 g2
  go_wp2_with fail
  refine (ct_Ack _ 100 300 ⟨100, 1⟩ _ H2.out.blk (by decide)).mono ?_
  rintro e w3 ⟨rfl, h3, g3⟩
  have H3 : Hid (Own w w.heap.size 45 (Ct.cells ⟨300, 2⟩) w3) := Lib.hid (H2.out.gr h3 g3)
  clear H2 h3 g3
  have P0 := Lib.hid (Own.new H3.out.bel 47 Pi.zero.cells)
  have HE := Lib.hid (pi_Empty w3)
  have C0 : Hid (Own w w.heap.size 45 (Ct.cells ⟨300, 2⟩) (w3.alloc (.cells Pi.zero.cells 47))) := Lib.hid (H3.out.keep ((Below.refl _ _).alloc (Nat.le_refl _) _))
  have HNe : Hid (w.heap.size ≠ w3.heap.size) := Lib.hid (by have := H3.out.blk.lt; omega)
  go_wp2_with fail
  refine (HE.out).mono ?_
  rintro e w4 ⟨rfl, hw4⟩
  rw [hw4] at P0 C0
  clear hw4 HE H3
  generalize w3.heap.size = p at *
  rw [show Ct.ackB ⟨0, 0⟩ 0 = true from rfl, show Ct.ackB ⟨100, 1⟩ 99 = false from rfl, show Ct.ackB ⟨100, 1⟩ 100 = true from rfl]
  go_wp2_with fail
  refine (pi_Put _ 100 true false ⟨0, 0⟩ _ P0.out.blk ⟨by decide, by decide⟩ (by decide)).mono ?_
  rintro e w5 ⟨rfl, h5, g5⟩
  have P1 : Hid (Own w p 47 (Pi.cells ⟨100, 0⟩) w5) := Lib.hid (P0.out.gr h5 g5)
  have C1 := Lib.hid (C0.out.other g5 P0.out.lo HNe.out)
  clear P0 C0 h5 g5
  go_wp2_with fail
  refine (pi_Put _ 124 true false ⟨100, 0⟩ _ P1.out.blk ⟨by decide, by decide⟩ (by decide)).mono ?_
  rintro e w6 ⟨rfl, h6, g6⟩
  have P2 : Hid (Own w p 47 (Pi.cells ⟨100, 1⟩) w6) := Lib.hid (P1.out.gr h6 g6)
  have C2 := Lib.hid (C1.out.other g6 P1.out.lo HNe.out)
  clear P1 C1 h6 g6
  go_wp2_with fail
  refine (pi_Put _ 130 true false ⟨100, 1⟩ _ P2.out.blk ⟨by decide, by decide⟩ (by decide)).mono ?_
  rintro e w7 ⟨rfl, h7, g7⟩
  have P3 : Hid (Own w p 47 (Pi.cells ⟨130, 0⟩) w7) := Lib.hid (P2.out.gr h7 g7)
  have C3 := Lib.hid (C2.out.other g7 P2.out.lo HNe.out)
  clear P2 C2 h7 g7
  go_wp2_with fail
  refine (pi_Put _ 1 true true ⟨130, 0⟩ _ P3.out.blk ⟨by decide, by decide⟩ (by decide)).mono ?_
  rintro e w8 ⟨rfl, h8, g8⟩
  have P4 : Hid (Own w p 47 (Pi.cells ⟨130, 0⟩) w8) := Lib.hid (P3.out.gr h8 g8)
  have C4 := Lib.hid (C3.out.other g8 P3.out.lo HNe.out)
  clear P3 C3 h8 g8
  go_wp2_with fail
  go_loopw [6] (fun i wr => ∃ k : Nat, i = .int .i64 (k : Int) ∧ k ≤ 3 ∧ Own w p 47 (Pi.cells ⟨130, k⟩) wr ∧ Own w w.heap.size 45 (Ct.cells ⟨300, 2⟩) wr) (fun i _ => 3 - (intOf i).toNat)
  case atStart => exact ⟨0, rfl, by decide, P4.out, C4.out⟩
  case round =>
    obtain ⟨k, rfl, hk, hP, hC⟩ := hrel
    have HP := Lib.hid hP
    have HC := Lib.hid hC
    clear hP hC P4 C4
    by_cases hlt : k < 3
    · have hput : Pi.put ⟨130, k⟩ 150 true false = ⟨130, k + 1⟩ := by
        unfold Pi.put Pi.full Pi.putB
        rw [if_neg (by simp; omega), if_neg (by simp), if_neg (by simp), if_neg (by rw [al11_4]; simp)]
      have HPu := pi_Put _ 150 true false ⟨130, k⟩ _ HP.out.blk ⟨by dsimp; decide, by dsimp; omega⟩ (by decide)
      rw [hput] at HPu
      have HPu := Lib.hid HPu
      clear hput
      go_wp2_with fail
      refine (HPu.out).mono ?_
      rintro e w9 ⟨rfl, h9, g9⟩
      have P5 := Lib.hid (HP.out.gr h9 g9)
      have C5 := Lib.hid (HC.out.other g9 HP.out.lo HNe.out)
      clear h9 g9 HPu
      go_wp2_with fail
      go_roundw
      case rel => exact ⟨k + 1, by go_num, by omega, P5.out, C5.out⟩
      case measure => simp [intOf]; omega
    · obtain rfl : k = 3 := by omega
      go_wp2_with fail
      refine (ct_Count _ ⟨300, 2⟩ _ HC.out.blk).mono ?_
      rintro e w9 ⟨rfl, rfl⟩
      go_wp2_with fail
      refine (pi_Full _ ⟨130, 3⟩ _ HP.out.blk).mono ?_
      rintro e w9 ⟨rfl, rfl⟩
      rw [show Pi.full ⟨130, 3⟩ = true from rfl]
      go_wp2_with fail
      refine (pi_Best _ ⟨130, 3⟩ _ HP.out.blk).mono ?_
      rintro e w9 ⟨rfl, rfl⟩
      go_wp2_with fail
      go_ret
      exact ⟨rfl, HP.out.bel⟩
end Go.Proofs.Ytdokacilgdcnjaa
