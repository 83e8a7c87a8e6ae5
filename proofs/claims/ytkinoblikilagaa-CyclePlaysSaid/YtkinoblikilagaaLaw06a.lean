/- The live question of layer 6 over this translation. -/
import Derived.Test.YtkinoblikilagaaCy
set_option linter.unusedVariables false
namespace Go.Proofs.Ytkinoblikilagaa
open Go.RowKit

/-- A cycle filter of the call's own. -/
def OwnC (W w : World) (b : Nat) (s : CY) : Prop := CyAt w b s ∧ W.heap.size ≤ b ∧ Below W.heap.size W w
theorem OwnC.keep {W w w' : World} {b : Nat} {s : CY} (h : OwnC W w b s) (k : Below w.heap.size w w') : OwnC W w' b s := ⟨Blk.keep h.1 k, h.2.1, bel_to h.2.2 k h.2.2.size⟩
theorem OwnC.alloc {W w : World} {b : Nat} {s : CY} (h : OwnC W w b s) (o : Obj) : OwnC W (w.alloc o) b s := h.keep ((Below.refl _ _).alloc (Nat.le_refl _) _)
theorem OwnC.post {W w w' : World} {b : Nat} {s s' : CY} (h : OwnC W w b s) (k : CyAt w' b s') (g : w.grownBy w' (some b)) : OwnC W w' b s' := ⟨k, h.2.1, bel_gr h.2.2 g h.2.2.size h.2.1⟩

theorem own_New (W w : World) (h : Below W.heap.size W w) : Calls Try.prog 6 #[] w fun e w' => e = .returned (.pointer (some ⟨w.heap.size, 0, none⟩)) ∧ OwnC W w' w.heap.size ⟨0, 0, 0⟩ ∧ Below w.heap.size w w' :=
  (cy_New w).mono fun e w' ⟨p, q, r⟩ => ⟨p, ⟨q, h.size, bel_to h r h.size⟩, r⟩
theorem own_Put {W w : World} {b : Nat} {s : CY} (g n cap : Nat) (l : List Nat) (h : OwnC W w b s) (hl : Blk w g 31 (pcells l)) (hn : l.length = n) (hm : n ≤ 1000) :
    Calls Try.prog 8 #[.pointer (some ⟨b, 0, none⟩), .slice (some ⟨g, 0, none⟩) n cap] w fun e w' => e = .returned (.tuple #[]) ∧ OwnC W w' b (s.put l) ∧ w.grownBy w' (some b) := by
  subst hn
  refine (cy_Put b s (some ⟨g, 0, none⟩) cap l w h.1 (Nums.of_blk hl) ?_ hm).mono fun e w' ⟨p, q, r⟩ => ⟨p, h.post q r, r⟩
  intro _ a e
  injection e with e
  subst e
  exact hl.ty h.1 (by decide)
theorem own_Next {W w : World} {b : Nat} {s : CY} (h : OwnC W w b s) :
    Calls Try.prog 12 #[.pointer (some ⟨b, 0, none⟩)] w fun e w' => e = .returned (.tuple #[]) ∧ OwnC W w' b s.next ∧ w.grownBy w' (some b) :=
  (cy_Next b s w h.1).mono fun e w' ⟨p, q, r⟩ => ⟨p, h.post q r, r⟩
theorem own_Best {W w : World} {b : Nat} {s : CY} (h : OwnC W w b s) :
    Calls Try.prog 10 #[.pointer (some ⟨b, 0, none⟩)] w fun e w' => e = .returned (.int .u64 (s.best : Int)) ∧ OwnC W w' b s ∧ Below w.heap.size w w' :=
  (cy_Best b s w h.1).mono fun e w' ⟨p, q⟩ => ⟨p, h.keep q, q⟩
theorem own_Count {W w : World} {b : Nat} {s : CY} (h : OwnC W w b s) :
    Calls Try.prog 14 #[.pointer (some ⟨b, 0, none⟩)] w fun e w' => e = .returned (.int .u64 (s.n : Int)) ∧ w = w' :=
  cy_Count b s w h.1

set_option maxHeartbeats 1000000 in
set_option maxRecDepth 100000 in
theorem alive06 (w : World) : Calls Try.prog 5 #[] w fun e w' => e = .returned (.bool true) ∧ Below w.heap.size w w' := by
  go_enter Try.func5, Try.ntmps5
  go_wp2_with fail
  refine (own_New w w (Below.refl _ _)).mono ?_
  rintro e w1 ⟨rfl, h1, _⟩
  obtain ⟨b, hb⟩ : ∃ b, w.heap.size = b := ⟨_, rfl⟩
  have H1 : Hid (OwnC w (w1.alloc (.cells #[.int .u64 5, .int .u64 9, .int .u64 2] 31)) b ⟨0, 0, 0⟩) := Lib.hid (by rw [← hb]; exact h1.alloc _)
  have X1 : Hid (Blk (w1.alloc (.cells #[.int .u64 5, .int .u64 9, .int .u64 2] 31)) w1.heap.size 31 (pcells [5, 9, 2])) := Lib.hid (Blk.new _ _ _)
  have C1 := Lib.hid (own_Put w1.heap.size 3 3 [5, 9, 2] H1.out X1.out rfl (by decide))
  rw [hb]
  have HB := Lib.hid hb
  clear hb h1
  go_wp2_with fail
  refine (C1.out).mono ?_
  rintro e w2 ⟨rfl, h2, _⟩
  have H2 : Hid (OwnC w w2 b ⟨0, 9, 0⟩) := Lib.hid h2
  clear h2 H1 X1 C1
  have C2 := Lib.hid (own_Next H2.out)
  go_wp2_with fail
  refine (C2.out).mono ?_
  rintro e w3 ⟨rfl, h3, _⟩
  have H3 : Hid (OwnC w (w3.alloc (.cells #[.int .u64 4] 31)) b ⟨9, 0, 1⟩) := Lib.hid (OwnC.alloc h3 _)
  clear h3 H2 C2
  have X3 : Hid (Blk (w3.alloc (.cells #[.int .u64 4] 31)) w3.heap.size 31 (pcells [4])) := Lib.hid (Blk.new _ _ _)
  have C3 := Lib.hid (own_Put w3.heap.size 1 1 [4] H3.out X3.out rfl (by decide))
  go_wp2_with fail
  refine (C3.out).mono ?_
  rintro e w4 ⟨rfl, h4, _⟩
  have H4 : Hid (OwnC w w4 b ⟨9, 4, 1⟩) := Lib.hid h4
  clear h4 H3 X3 C3
  have C4 : Hid (Calls Try.prog 10 #[.pointer (some ⟨b, 0, none⟩)] w4 fun e w' => e = .returned (.int .u64 9) ∧ OwnC w w' b ⟨9, 4, 1⟩ ∧ Below w4.heap.size w4 w') := Lib.hid (own_Best H4.out)
  go_wp2_with fail
  refine (C4.out).mono ?_
  rintro e w5 ⟨rfl, h5, _⟩
  have H5 : Hid (OwnC w w5 b ⟨9, 4, 1⟩) := Lib.hid h5
  clear h5 H4 C4
  have C5 := Lib.hid (own_Next H5.out)
  go_wp2_with fail
  refine (C5.out).mono ?_
  rintro e w6 ⟨rfl, h6, _⟩
  have H6 : Hid (OwnC w w6 b ⟨4, 0, 2⟩) := Lib.hid h6
  clear h6 H5 C5
  have C6 : Hid (Calls Try.prog 10 #[.pointer (some ⟨b, 0, none⟩)] w6 fun e w' => e = .returned (.int .u64 4) ∧ OwnC w w' b ⟨4, 0, 2⟩ ∧ Below w6.heap.size w6 w') := Lib.hid (own_Best H6.out)
  go_wp2_with fail
  refine (C6.out).mono ?_
  rintro e w7 ⟨rfl, h7, _⟩
  have H7 : Hid (OwnC w w7 b ⟨4, 0, 2⟩) := Lib.hid h7
  clear h7 H6 C6
  have C7 : Hid (Calls Try.prog 14 #[.pointer (some ⟨b, 0, none⟩)] w7 fun e w' => e = .returned (.int .u64 2) ∧ w7 = w') := Lib.hid (own_Count H7.out)
  go_wp2_with fail
  refine (C7.out).mono ?_
  rintro e w8 ⟨rfl, rfl⟩
  go_wp2_with fail
  go_ret
  exact ⟨rfl, H7.out.2.2⟩
end Go.Proofs.Ytkinoblikilagaa
