/- The live question of layer 4 is answered as it is fixed. -/
import Derived.Test.YtfdekmccmdekkaaRz
set_option linter.unusedVariables false
namespace Go.Proofs.Ytfdekmccmdekkaa
open Go.RowKit

def L0 : RS := ⟨[3, 4], 0, 2⟩
def L1 : RS := L0.push 5
def L2 : RS := L1.shift
def L3 : RS := L2.pop
theorem L0_ok : L0.ok := ⟨by decide, by decide, by decide⟩
theorem L1_ok : L1.ok := RS.push_ok L0_ok (by decide) 5
theorem L2_ok : L2.ok := RS.shift_ok L1_ok (by decide)
theorem L3_ok : L3.ok := RS.pop_ok L2_ok (by decide)

/-- A row goes on in memory of the call's own. -/
theorem own_next {B : Nat} {a w w' : World} {b g g' : Nat} (h : Below B a w) (k : Mv w w' b g) (hB : B ≤ w.heap.size) (hb : B ≤ b) (hg : B ≤ g) : Below B a w' :=
  h.trans ⟨k.os, k.tape, k.output, k.size, fun i hi => k.block i (by omega) (by omega) (by omega)⟩

set_option maxHeartbeats 1000000 in
theorem alive04 (w : World) : Calls Try.prog 5 #[] w fun e w' => e = .returned (.bool true) ∧ Below w.heap.size w w' := by
  go_enter Try.func5, Try.ntmps5
  go_wp2_with fail
  have HN : Hid (Nums (w.alloc (.cells (pcells [3, 4]) 27)) (some ⟨w.heap.size, 0, none⟩) [3, 4]) := Lib.hid (Nums.of_blk (Blk.new _ _ _))
  have HC : Hid (Calls Try.prog 6 #[.slice (some ⟨w.heap.size, 0, none⟩) 2 2] (w.alloc (.cells #[.int .u64 3, .int .u64 4] 27)) (NewPost (w.alloc (.cells #[.int .u64 3, .int .u64 4] 27)) L0)) := Lib.hid (ring_New _ 2 [3, 4] _ HN.out (by decide))
  refine (HC.out).mono ?_
  rintro e w0 ⟨⟨b, g, rfl, hr, hb, hg⟩, hbel⟩
  have R0 := Lib.hid hr
  have G0 := Lib.hid (((Below.refl w.heap.size w).alloc (Nat.le_refl _) (.cells #[.int .u64 3, .int .u64 4] 27)).trans (hbel.mono (by simp)))
  have hb' : w.heap.size ≤ b := by simp at hb; omega
  have hg0 : w.heap.size ≤ g := by simp at hg; omega
  clear hr hbel HC HN hb hg
  go_wp2_with fail
  refine (ring_Push b g 5 L0 w0 R0.out L0_ok (by decide)).mono ?_
  rintro e w1 ⟨rfl, ⟨g1, hr, hg1⟩, hmv⟩
  have R1 : Hid (RingAt w1 b g1 L1) := Lib.hid hr
  have G1 := Lib.hid (own_next (g' := g1) G0.out hmv G0.out.size hb' hg0)
  have hg1' : w.heap.size ≤ g1 := by have := G0.out.size; omega
  clear hr hmv hg1 R0 G0
  go_wp2_with fail
  refine (ring_Shift b g1 L1 w1 R1.out L1_ok (by decide)).mono ?_
  rintro e w2 ⟨rfl, ⟨g2, hr, hg2⟩, hmv⟩
  have R2 : Hid (RingAt w2 b g2 L2) := Lib.hid hr
  have G2 := Lib.hid (own_next (g' := g2) G1.out hmv G1.out.size hb' hg1')
  have hg2' : w.heap.size ≤ g2 := by have := G1.out.size; omega
  clear hr hmv hg2 R1 G1
  rw [show L1.get 0 = 3 by decide]
  unfold got
  go_wp2_with fail
  refine (ring_Pop b g2 L2 w2 R2.out L2_ok (by decide)).mono ?_
  rintro e w3 ⟨rfl, ⟨g3, hr, hg3⟩, hmv⟩
  have R3 : Hid (RingAt w3 b g3 L3) := Lib.hid hr
  have G3 := Lib.hid (own_next (g' := g3) G2.out hmv G2.out.size hb' hg2')
  clear hr hmv hg3 R2 G2
  rw [show L2.get (L2.cnt - 1) = 5 by decide]
  unfold got
  go_wp2_with fail
  have HC : Hid (Calls Try.prog 15 #[.pointer (some ⟨b, 0, none⟩), .int .i64 0] w3 fun e w' => e = got (L3.get 0) true ∧ Drawn w3 w') := Lib.hid (ring_At b g3 0 L3 w3 R3.out L3_ok (by decide))
  refine (HC.out).mono ?_
  rintro e w4 ⟨rfl, hd⟩
  have R4 := Lib.hid (hd.ring R3.out)
  have G4 := Lib.hid (G3.out.trans (hd.below _))
  clear hd HC R3 G3
  rw [show L3.get 0 = 4 by decide]
  unfold got
  go_wp2_with fail
  refine (ring_At_out b g3 1 L3 w4 R4.out (.inr (by decide))).mono ?_
  rintro e w5 ⟨rfl, hd⟩
  have R5 := Lib.hid (hd.ring R4.out)
  have G5 := Lib.hid (G4.out.trans (hd.below _))
  clear hd R4 G4
  unfold got
  go_wp2_with fail
  refine (ring_Len b g3 L3 w5 R5.out).mono ?_
  rintro e w6 ⟨rfl, rfl⟩
  rw [show L3.cnt = 1 by decide]
  go_wp2_with fail
  go_ret
  exact ⟨rfl, G5.out⟩
end Go.Proofs.Ytfdekmccmdekkaa
