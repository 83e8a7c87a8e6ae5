/- Whether time has passed, whether a packet is overtaken, over this translation. -/
import Derived.Test.YtfpopbhbhdhdnaaLt
set_option linter.unusedVariables false
namespace Go.Proofs.Ytfpopbhbhdhdnaa
open Go.RowKit Pl

def passB (since time now : Nat) : Bool := decide (addS since time ≤ now)

theorem passed_any (since time now : Nat) (h1 : since ≤ 18446744073709551615) (h2 : time ≤ 18446744073709551615) (w : World) :
    Calls Try.prog 32 #[.int .u64 (since : Int), .int .u64 (time : Int), .int .u64 (now : Int)] w fun e w' => e = .returned (.bool (passB since time now)) ∧ Below w.heap.size w w' := by
  have HA := Lib.hid (fix_Add2_n w w.heap.size 2 since time rfl h1 h2)
  have hp : passB since time now = decide (addS since time ≤ now) := rfl
  rw [hp]
  clear hp h1 h2
  generalize addS since time = z at *
  go_enter Try.func32, Try.ntmps32
  go_wp2_with fail
  refine (HA.out).mono ?_
  rintro e w' ⟨rfl, rfl⟩
  go_wp2_with fail
  go_ret
  exact ⟨rfl, (Below.refl _ _).alloc (Nat.le_refl _) _⟩

theorem add_row (w : World) (a b : Nat) : Row (w.alloc (.cells #[.int .u64 (a : Int), .int .u64 (b : Int)] 22)) w.heap.size 0 [a, b] := by
  intro i hi
  have hb := Blk.new w 22 #[.int .u64 (a : Int), .int .u64 (b : Int)]
  match i, hi with
  | 0, _ => exact hb.cell (i := 0) rfl
  | 1, _ => exact hb.cell (i := 1) rfl
theorem add_two {x0 : Nat} (a b : Nat) (ha : a ≤ 18446744073709551615) (hb : b ≤ 18446744073709551615) (w : World) (hr : Row w x0 0 [a, b]) :
    Calls Try.prog 56 #[.slice (some ⟨x0, 0, none⟩) 2 2] w fun e w' => e = .returned (.int .u64 ((addS a b : Nat) : Int)) ∧ w = w' := by
  have := fix_Add x0 0 2 [a, b] w (by simp) (fun z hz => by simp at hz; rcases hz with rfl | rfl <;> assumption) hr
  rw [sumS_two] at this
  exact this
def overB (s : LS) (p : Pk) : Bool := s.topped && decide (addS p.n s.reorder ≤ s.top)

set_option maxHeartbeats 1000000 in
theorem overtaken_any (b rb g : Nat) (x : Kp) (s : LS) (w : World) (h : LAt w b rb g s) (hs : s.ok) (gn : Bool) (hx : Blk w x.b 66 (Kp.cells x.p gn)) (hp : x.p.ok) :
    Calls Try.prog 31 #[.pointer (some ⟨b, 0, none⟩), .pointer (some ⟨x.b, 0, none⟩)] w fun e w' => e = .returned (.bool (overB s x.p)) ∧ Below w.heap.size w w' := by
  have h5 := h.head.cell (i := 5) (v := .int .u64 (s.reorder : Int)) rfl
  have h7 := h.head.cell (i := 7) (v := .int .u64 (s.top : Int)) rfl
  have h8 := h.head.cell (i := 8) (v := .bool s.topped) rfl
  have k0 := (kcell hx).1
  have hn : x.p.n ≤ 18446744073709551615 := by have := hp.n; omega
  have hr := hs.reorder
  have HE : Hid (overB s x.p = (s.topped && decide (addS x.p.n s.reorder ≤ s.top))) := Lib.hid rfl
  have HAdd := Lib.hid (add_two x.p.n s.reorder hn hr (w.alloc (.cells #[.int .u64 (x.p.n : Int), .int .u64 (s.reorder : Int)] 22)).drew (add_row w x.p.n s.reorder))
  clear h hs hx hp hn hr
  generalize x.p.n = n at *
  generalize s.reorder = r at *
  generalize s.top = t at *
  generalize overB s x.p = ov at *
  generalize addS n r = z at *
  cases ht : s.topped
  · rw [ht] at h8 HE
    go_enter Try.func31, Try.ntmps31
    go_wp2_with fail
    go_quiet (fail)
    go_wp2_with fail
    go_ret
    exact ⟨by rw [HE.out]; rfl, Drawn.below ⟨nq, rfl⟩ _⟩
  · rw [ht] at h8 HE
    have H5 : w.drew.cell? ⟨b, 5, none⟩ = some (.int .u64 (r : Int)) := h5
    have H7 : w.drew.cell? ⟨b, 7, none⟩ = some (.int .u64 (t : Int)) := h7
    have H8 : w.drew.cell? ⟨b, 8, none⟩ = some (.bool true) := h8
    have K0 : w.drew.cell? ⟨x.b, 0, none⟩ = some (.int .u64 (n : Int)) := k0
    have G5 := Lib.hid h5
    have G7 := Lib.hid h7
    have G8 := Lib.hid h8
    have J0 := Lib.hid k0
    clear h5 h7 h8 k0
    go_enter Try.func31, Try.ntmps31
    go_wp2_with fail
    go_region_held3 (fun w' => w'.cell? ⟨b, 5, none⟩ = some (.int .u64 (r : Int)) ∧ w'.cell? ⟨b, 7, none⟩ = some (.int .u64 (t : Int)) ∧ w'.cell? ⟨b, 8, none⟩ = some (.bool true) ∧ w'.cell? ⟨x.b, 0, none⟩ = some (.int .u64 (n : Int)))
      (first | exact ⟨H5, H7, H8, K0⟩ | exact ⟨cell_al (w := w) G5.out _, cell_al (w := w) G7.out _, cell_al (w := w) G8.out _, cell_al (w := w) J0.out _⟩)
      (first | (go_at_call 56; refine (HAdd.out).mono ?_; rintro e w' ⟨rfl, rfl⟩))
    go_wp2_with fail
    go_ret
    exact ⟨by rw [HE.out]; rfl, (((Below.refl w.heap.size w).alloc (Nat.le_refl _) _).trans ((Drawn.drew _).below _))⟩
end Go.Proofs.Ytfpopbhbhdhdnaa
