/- Contracts of the document's own counter and pipe (goitref11) over this translation. -/
import Derived.Test.YtdokacilgdcnjaaWa
import Derived.Test.YtdokacilgdcnjaaR1m
set_option linter.unusedVariables false
namespace Go.Proofs.Ytdokacilgdcnjaa
open Go.RowKit Pl

def Pi.rcells (s : Pi) : Array Value := #[.int .u64 (s.best : Int), .int .i64 (s.n : Int)]

set_option maxHeartbeats 400000 in
theorem rct_Ack (b x d : Nat) (s : Ct) (w : World) (h : Blk w b 29 s.cells) (hn : s.n < 18446744073709551615) :
    Calls Try.prog 8 #[.pointer (some ⟨b, 0, none⟩), .int .u64 (x : Int), .int .u64 (d : Int)] w (OnePost w b 29 (.bool (s.ackB x)) (s.ackS x d).cells) := by
  have h0 := h.cell (i := 0) (v := .int .u64 (s.mark : Int)) rfl
  have h1 := h.cell (i := 1) (v := .int .u64 (s.n : Int)) rfl
  have f0 := h.free 0
  have f1 := h.free 1
  have HH := Lib.hid h
  clear h
  obtain ⟨m, n⟩ := s
  dsimp only at *
  by_cases c : m ≤ x
  · have hc : decide (x < m) = false := by simpa using c
    have HB : Hid (Ct.ackB ⟨m, n⟩ x = true) := Lib.hid (by simpa [Ct.ackB] using c)
    have HS : Hid (Ct.ackS ⟨m, n⟩ x d = ⟨d, n + 1⟩) := Lib.hid (by unfold Ct.ackS; exact if_pos c)
    clear c
    go_enter Try.func8, Try.ntmps8
    go_wp2
    go_ret
    exact ⟨by rw [HB.out]; rfl, by rw [HS.out]; simpa [Ct.cells] using (HH.out.set 0 (.int .u64 (d : Int))).set 1 (.int .u64 ((n : Int) + 1)), gr_set (gr_set (gr_refl _ _) _ _) _ _⟩
  · have hc : decide (x < m) = true := by simpa using c
    have HB : Hid (Ct.ackB ⟨m, n⟩ x = false) := Lib.hid (by simpa [Ct.ackB] using c)
    have HS : Hid (Ct.ackS ⟨m, n⟩ x d = ⟨m, n⟩) := Lib.hid (by unfold Ct.ackS; exact if_neg c)
    clear c
    go_enter Try.func8, Try.ntmps8
    go_wp2
    go_ret
    exact ⟨by rw [HB.out]; rfl, by rw [HS.out]; exact HH.out, gr_refl _ _⟩

set_option maxHeartbeats 1000000 in
theorem rpi_Put (b x : Nat) (r l : Bool) (s : Pi) (w : World) (h : Blk w b 39 s.rcells) (hs : s.ok) (hx : x ≤ 18446744073709551615) :
    Calls Try.prog 14 #[.pointer (some ⟨b, 0, none⟩), .int .u64 (x : Int), .bool r, .bool l] w fun e w' => e = .returned (.tuple #[]) ∧ Blk w' b 39 (s.put x r l).rcells ∧ w.grownBy w' (some b) := by
  have h0 := h.cell (i := 0) (v := .int .u64 (s.best : Int)) rfl
  have h1 := h.cell (i := 1) (v := .int .i64 (s.n : Int)) rfl
  have hn := hs.2
  have HX : Hid (∀ W, Calls Try.prog 16 #[.int .u64 (x : Int), .int .u64 4] W fun e w' => e = .returned (.int .u64 ((mulS x 4 : Nat) : Int)) ∧ w' = W) := Lib.hid fun W => (ref_Mul x 4 W hx (by decide)).mono fun _ _ h => ⟨h.1, h.2.symm⟩
  have HY : Hid (∀ W, Calls Try.prog 16 #[.int .u64 (s.best : Int), .int .u64 5] W fun e w' => e = .returned (.int .u64 ((mulS s.best 5 : Nat) : Int)) ∧ w' = W) := Lib.hid fun W => (ref_Mul s.best 5 W hs.1 (by decide)).mono fun _ _ h => ⟨h.1, h.2.symm⟩
  have HH := Lib.hid h
  have hf : decide ((3 : Int) ≤ (s.n : Int)) = s.full := by unfold Pi.full; exact decide_eq_decide.2 (by omega)
  have hg : grownB x s.best = decide (mulS s.best 5 ≤ mulS x 4) := rfl
  have HP : Hid (∀ f, s.full = f → ∀ g, grownB x s.best = g → s.put x r l = if f = true then s else if r = false then s else if l = true then s else if g = true then ⟨x, 0⟩ else ⟨s.best, s.n + 1⟩) := Lib.hid fun f e g e' => by unfold Pi.put Pi.putB; rw [e, e']
  have HP1 := Lib.hid (HP.out _ rfl _ hg)
  generalize mulS x 4 = p at *
  generalize mulS s.best 5 = q at *
  generalize s.put x r l = s' at *
  generalize s.full = f at *
  clear HP h hs hg
  obtain ⟨y, n⟩ := s
  dsimp only at *
  cases f with
  | true =>
    go_enter Try.func14, Try.ntmps14
    go_wp2_with fail
    exact bodyPost_ret (v := .tuple #[]) (by simp [results, Try.results14, go_sem]) rfl ⟨rfl, by rw [HP1.out]; exact HH.out, gr_refl _ _⟩
  | false =>
    cases r with
    | false =>
      go_enter Try.func14, Try.ntmps14
      go_wp2_with fail
      exact bodyPost_ret (v := .tuple #[]) (by simp [results, Try.results14, go_sem]) rfl ⟨rfl, by rw [HP1.out]; exact HH.out, gr_refl _ _⟩
    | true =>
      cases l with
      | true =>
        go_enter Try.func14, Try.ntmps14
        go_wp2_with fail
        exact bodyPost_ret (v := .tuple #[]) (by simp [results, Try.results14, go_sem]) rfl ⟨rfl, by rw [HP1.out]; exact HH.out, gr_refl _ _⟩
      | false =>
        have hz : n ≤ 2 := by
          have : ¬ ((3 : Int) ≤ (n : Int)) := of_decide_eq_false hf
          omega
        go_enter Try.func14, Try.ntmps14
        go_wp2_with fail
        go_quiet (first | (go_at_call 16; with_reducible exact Calls.quiet_of_same (HX.out _)) | (go_at_call 16; with_reducible exact Calls.quiet_of_same (HY.out _)))
        have Q := Lib.hid (show Blk (w.drewN nq) b 39 (Pi.rcells ⟨y, n⟩) from HH.out)
        have G : Hid (w.grownBy (w.drewN nq) (some b)) := Lib.hid (gr_below ((Drawn.below ⟨nq, rfl⟩ _)) _)
        have q0 := Q.out.cell (i := 0) (v := .int .u64 (y : Int)) rfl
        have q1 := Q.out.cell (i := 1) (v := .int .i64 (n : Int)) rfl
        have f0 := Q.out.free 0
        have f1 := Q.out.free 1
        generalize w.drewN nq = wq at *
        clear h0 h1 HH
        by_cases c : q ≤ p
        · have hc : decide (q ≤ p) = true := decide_eq_true c
          rw [hc] at HP1
          clear hc
          go_wp2_with fail
          go_end0
          exact ⟨rfl, by rw [HP1.out]; simpa [Pi.rcells] using (Q.out.set 0 (.int .u64 (x : Int))).set 1 (.int .i64 0), gr_set (gr_set G.out _ _) _ _⟩
        · have hc : decide (q ≤ p) = false := decide_eq_false c
          rw [hc] at HP1
          clear hc
          go_wp2_with fail
          go_end0
          exact ⟨rfl, by rw [HP1.out]; simpa [Pi.rcells] using (Q.out.set 1 (.int .i64 ((n : Int) + 1))), gr_set G.out _ _⟩
end Go.Proofs.Ytdokacilgdcnjaa
