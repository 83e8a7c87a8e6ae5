/- 2 texts put together: what each one says stands ahead of it. -/
import Derived.Test.YtpkbjfhicocogaaGreatDoorKPlays11
import Derived.BigRegion
import Derived.Deep.QuietTactic
import Derived.BigQuiet
import Derived.Test.YtpkbjfhicocogaaGreatDoorKPlays06
/- Contracts of package round over this translation: a counter, a pipe, two cells each. -/
set_option linter.unusedVariables false
namespace Go.Proofs.YtpkbjfhicocogaaGreatDoor
open Go.RowKit Pl

/-- A counter: its mark, its rounds. -/
structure Ct where
  mark : Nat
  n : Nat
def Ct.cells (s : Ct) : Array Value := #[.int .u64 (s.mark : Int), .int .u64 (s.n : Int)]
def Ct.zero : Ct := ⟨0, 0⟩
def Ct.ackB (s : Ct) (x : Nat) : Bool := decide (s.mark ≤ x)
def Ct.ackS (s : Ct) (x d : Nat) : Ct := if s.mark ≤ x then ⟨d, s.n + 1⟩ else s
theorem Ct.ackS_n (s : Ct) (x d : Nat) : (s.ackS x d).n ≤ s.n + 1 := by unfold Ct.ackS; split <;> simp

/-- A pipe: its best rate, its number. -/
structure Pi where
  best : Nat
  n : Nat
def Pi.cells (s : Pi) : Array Value := #[.int .u64 (s.best : Int), .int .u64 (s.n : Int)]
def Pi.zero : Pi := ⟨0, 0⟩
def Pi.full (s : Pi) : Bool := decide (3 ≤ s.n)
def Pi.ok (s : Pi) : Prop := s.best ≤ 18446744073709551615 ∧ s.n ≤ 3
def grownB (rate best : Nat) : Bool := decide (mulS best 5 ≤ mulS rate 4)
def Pi.putB (s : Pi) (rate : Nat) : Pi := if grownB rate s.best = true then ⟨rate, 0⟩ else ⟨s.best, s.n + 1⟩
def Pi.put (s : Pi) (rate : Nat) (r l : Bool) : Pi := if s.full = true then s else if r = false then s else if l = true then s else s.putB rate
theorem Pi.put_ok {s : Pi} (h : s.ok) {rate : Nat} (hr : rate ≤ 18446744073709551615) (r l : Bool) : (s.put rate r l).ok := by
  unfold Pi.put
  split
  · exact h
  · rename_i hf
    have hn : s.n < 3 := by unfold Pi.full at hf; simp at hf; omega
    split
    · exact h
    · split
      · exact h
      · unfold Pi.putB
        split
        · exact ⟨hr, Nat.zero_le _⟩
        · exact ⟨h.1, by dsimp; omega⟩
theorem Pi.put_full {s : Pi} (h : s.full = true) (rate : Nat) (r l : Bool) : s.put rate r l = s := by unfold Pi.put; rw [if_pos h]

theorem ct_New (w : World) : Calls Tryz.prog 23 #[] w fun e w' => e = .returned (.pointer (some ⟨w.heap.size, 0, none⟩)) ∧ w.alloc (.cells Ct.zero.cells 115) = w' := by
  go_enter Tryz.func23, Tryz.ntmps23
  go_wp2
  go_ret
  exact ⟨rfl, rfl⟩

/-- What a call leaves that changes one block. -/
structure OnePost (w : World) (b : Nat) (T : TypeId) (r : Value) (cs : Array Value) (e : Ending) (w' : World) : Prop where
  e : e = .returned r
  blk : Blk w' b T cs
  gr : w.grownBy w' (some b)

set_option maxHeartbeats 400000 in
theorem ct_Ack (b x d : Nat) (s : Ct) (w : World) (h : Blk w b 115 s.cells) (hn : s.n < 18446744073709551615) :
    Calls Tryz.prog 71 #[.pointer (some ⟨b, 0, none⟩), .int .u64 (x : Int), .int .u64 (d : Int)] w (OnePost w b 115 (.bool (s.ackB x)) (s.ackS x d).cells) := by
  have h0 := h.cell (i := 0) (v := .int .u64 (s.mark : Int)) rfl
  have h1 := h.cell (i := 1) (v := .int .u64 (s.n : Int)) rfl
  have f0 := h.free 0
  have f1 := h.free 1
  have HH := Lib.hid h
  clear h
  obtain ⟨m, n⟩ := s
  dsimp only at *
  by_cases c : m ≤ x
  · have hc : decide (x < m) = false := by simpa using c
    have HB : Hid (Ct.ackB ⟨m, n⟩ x = true) := Lib.hid (by simpa [Ct.ackB] using c)
    have HS : Hid (Ct.ackS ⟨m, n⟩ x d = ⟨d, n + 1⟩) := Lib.hid (by unfold Ct.ackS; exact if_pos c)
    clear c
    go_enter Tryz.func71, Tryz.ntmps71
    go_wp2
    go_ret
    exact ⟨by rw [HB.out]; rfl, by rw [HS.out]; simpa [Ct.cells] using (HH.out.set 0 (.int .u64 (d : Int))).set 1 (.int .u64 ((n : Int) + 1)), gr_set (gr_set (gr_refl _ _) _ _) _ _⟩
  · have hc : decide (x < m) = true := by simpa using c
    have HB : Hid (Ct.ackB ⟨m, n⟩ x = false) := Lib.hid (by simpa [Ct.ackB] using c)
    have HS : Hid (Ct.ackS ⟨m, n⟩ x d = ⟨m, n⟩) := Lib.hid (by unfold Ct.ackS; exact if_neg c)
    clear c
    go_enter Tryz.func71, Tryz.ntmps71
    go_wp2
    go_ret
    exact ⟨by rw [HB.out]; rfl, by rw [HS.out]; exact HH.out, gr_refl _ _⟩

theorem ct_Ack_nil (v u : Value) (w : World) : Calls Tryz.prog 71 #[.pointer none, v, u] w fun e w' => e = .returned (.bool false) ∧ w = w' := by
  go_enter Tryz.func71, Tryz.ntmps71
  go_wp2
  go_ret
  exact ⟨rfl, rfl⟩

theorem pi_Empty (w : World) : Calls Tryz.prog 19 #[] w fun e w' => e = .returned (.pointer (some ⟨w.heap.size, 0, none⟩)) ∧ w.alloc (.cells Pi.zero.cells 104) = w' := by
  go_enter Tryz.func19, Tryz.ntmps19
  go_wp2
  go_ret
  exact ⟨rfl, rfl⟩

theorem pi_Full (b : Nat) (s : Pi) (w : World) (h : Blk w b 104 s.cells) :
    Calls Tryz.prog 74 #[.pointer (some ⟨b, 0, none⟩)] w fun e w' => e = .returned (.bool s.full) ∧ w = w' := by
  have h1 := h.cell (i := 1) (v := .int .u64 (s.n : Int)) rfl
  have hc : decide ((3 : Int) ≤ (s.n : Int)) = s.full := by unfold Pi.full; exact decide_eq_decide.2 (by omega)
  clear h
  generalize s.full = f at *
  go_enter Tryz.func74, Tryz.ntmps74
  go_wp2
  go_ret
  exact ⟨rfl, rfl⟩
theorem pi_Full_nil (w : World) : Calls Tryz.prog 74 #[.pointer none] w fun e w' => e = .returned (.bool false) ∧ w = w' := by
  go_enter Tryz.func74, Tryz.ntmps74
  go_wp2
  go_ret
  exact ⟨rfl, rfl⟩
theorem ro_grown (x y : Nat) (w : World) (hx : x ≤ 18446744073709551615) (hy : y ≤ 18446744073709551615) :
    Calls Tryz.prog 75 #[.int .u64 (x : Int), .int .u64 (y : Int)] w fun e w' => e = .returned (.bool (grownB x y)) ∧ w = w' := by
  have H1 := Lib.hid (fix_Mul_n x 4 w hx (by decide))
  have H2 := Lib.hid (fix_Mul_n y 5 w hy (by decide))
  unfold grownB
  generalize mulS x 4 = p at *
  generalize mulS y 5 = q at *
  go_enter Tryz.func75, Tryz.ntmps75
  go_wp2_with fail
  refine (H1.out).mono ?_
  rintro e w' ⟨rfl, rfl⟩
  go_wp2_with fail
  refine (H2.out).mono ?_
  rintro e w' ⟨rfl, rfl⟩
  go_wp2_with fail
  go_ret
  exact ⟨by simp, rfl⟩

theorem pi_Put_nil (v u t : Value) (w : World) : Calls Tryz.prog 36 #[.pointer none, v, u, t] w fun e w' => e = .returned (.tuple #[]) ∧ w = w' := by
  go_enter Tryz.func36, Tryz.ntmps36
  go_wp2
  exact bodyPost_ret (v := .tuple #[]) (by simp [results, Tryz.results36, go_sem]) rfl ⟨rfl, rfl⟩

set_option maxHeartbeats 1000000 in
theorem pi_Put (b x : Nat) (r l : Bool) (s : Pi) (w : World) (h : Blk w b 104 s.cells) (hs : s.ok) (hx : x ≤ 18446744073709551615) :
    Calls Tryz.prog 36 #[.pointer (some ⟨b, 0, none⟩), .int .u64 (x : Int), .bool r, .bool l] w fun e w' => e = .returned (.tuple #[]) ∧ Blk w' b 104 (s.put x r l).cells ∧ w.grownBy w' (some b) := by
  have d0 := (h.drew).cell (i := 0) (v := .int .u64 (s.best : Int)) rfl
  have d1 := (h.drew).cell (i := 1) (v := .int .u64 (s.n : Int)) rfl
  have h0 := h.cell (i := 0) (v := .int .u64 (s.best : Int)) rfl
  have h1 := h.cell (i := 1) (v := .int .u64 (s.n : Int)) rfl
  have hn := hs.2
  have HG := Lib.hid fun W => ro_grown x s.best W hx hs.1
  have HH := Lib.hid h
  have HF := Lib.hid fun n => pi_Full b s (w.drewN n) h
  have HP : Hid (∀ f, s.full = f → ∀ g, grownB x s.best = g → s.put x r l = if f = true then s else if r = false then s else if l = true then s else if g = true then ⟨x, 0⟩ else ⟨s.best, s.n + 1⟩) := Lib.hid fun f e g e' => by unfold Pi.put Pi.putB; rw [e, e']
  have HP1 := Lib.hid (HP.out _ rfl _ rfl)
  generalize s.put x r l = s' at *
  generalize s.full = f at *
  generalize grownB x s.best = g at *
  clear HP h hs d0 d1
  obtain ⟨y, n⟩ := s
  dsimp only at *
  go_enter Tryz.func36, Tryz.ntmps36
  go_wp2_with fail
  go_quiet (fail)
  have Hq := Lib.hid (HF.out nq)
  have Q := Lib.hid (show Blk (w.drewN nq) b 104 (Pi.cells ⟨y, n⟩) from HH.out)
  have G : Hid (w.grownBy (w.drewN nq) (some b)) := Lib.hid (gr_below ((Drawn.below ⟨nq, rfl⟩ _)) _)
  have q0 := Q.out.cell (i := 0) (v := .int .u64 (y : Int)) rfl
  have q1 := Q.out.cell (i := 1) (v := .int .u64 (n : Int)) rfl
  have f0 := Q.out.free 0
  have f1 := Q.out.free 1
  generalize w.drewN nq = wq at *
  clear h0 h1 HF HH
  cases f with
  | true =>
    go_wp2_with fail
    refine (Hq.out).mono ?_
    rintro e w' ⟨rfl, rfl⟩
    go_wp2_with fail
    go_end0
    exact ⟨rfl, by rw [HP1.out]; exact Q.out, G.out⟩
  | false =>
    go_wp2_with fail
    refine (Hq.out).mono ?_
    rintro e w' ⟨rfl, rfl⟩
    cases r with
    | false =>
      go_wp2_with fail
      go_end0
      exact ⟨rfl, by rw [HP1.out]; exact Q.out, G.out⟩
    | true =>
      cases l with
      | true =>
        go_wp2_with fail
        go_end0
        exact ⟨rfl, by rw [HP1.out]; exact Q.out, G.out⟩
      | false =>
        go_wp2_with fail
        refine (HG.out _).mono ?_
        rintro e w' ⟨rfl, rfl⟩
        cases g with
        | true =>
          go_wp2_with fail
          go_end0
          exact ⟨rfl, by rw [HP1.out]; simpa [Pi.cells] using (Q.out.set 0 (.int .u64 (x : Int))).set 1 (.int .u64 0), gr_set (gr_set G.out _ _) _ _⟩
        | false =>
          go_wp2_with fail
          go_end0
          exact ⟨rfl, by rw [HP1.out]; simpa [Pi.cells] using (Q.out.set 0 (.int .u64 (y : Int))).set 1 (.int .u64 ((n : Int) + 1)), gr_set (gr_set G.out _ _) _ _⟩
end Go.Proofs.YtpkbjfhicocogaaGreatDoor

/- Contracts of the document's own counter and pipe (goitref11), within the document's engine, over this translation. -/
set_option linter.unusedVariables false
namespace Go.Proofs.YtpkbjfhicocogaaGreatDoor
open Go.RowKit Pl

def Ct.ecells (E : Nat → Value) (s : Ct) : Array Value := #[E 0, E 1, E 2, E 3, E 4, E 5, E 6, E 7, E 8, E 9, E 10, E 11, E 12, E 13, .int .u64 (s.mark : Int), .int .u64 (s.n : Int), E 16, E 17, E 18, E 19, E 20, E 21, E 22, E 23, E 24, E 25]
def Pi.ecells (E : Nat → Value) (s : Pi) : Array Value := #[E 0, E 1, E 2, E 3, E 4, E 5, E 6, E 7, E 8, E 9, E 10, E 11, E 12, E 13, E 14, E 15, .int .u64 (s.best : Int), .int .i64 (s.n : Int), E 18, E 19, E 20, E 21, E 22, E 23, E 24, E 25]

set_option maxHeartbeats 400000 in
theorem rct_Ack {E : Nat → Value} (b x d : Nat) (s : Ct) (w : World) (h : Blk w b 74 (s.ecells E)) (hn : s.n < 18446744073709551615) :
    Calls Tryz.prog 95 #[.pointer (some ⟨b, 14, none⟩), .int .u64 (x : Int), .int .u64 (d : Int)] w (OnePost w b 74 (.bool (s.ackB x)) ((s.ackS x d).ecells E)) := by
  have h0 := h.cell (i := 14) (v := .int .u64 (s.mark : Int)) rfl
  have h1 := h.cell (i := 15) (v := .int .u64 (s.n : Int)) rfl
  have f0 := h.free 14
  have f1 := h.free 15
  have HH := Lib.hid h
  clear h
  obtain ⟨m, n⟩ := s
  dsimp only at *
  by_cases c : m ≤ x
  · have hc : decide (x < m) = false := by simpa using c
    have HB : Hid (Ct.ackB ⟨m, n⟩ x = true) := Lib.hid (by simpa [Ct.ackB] using c)
    have HS : Hid (Ct.ackS ⟨m, n⟩ x d = ⟨d, n + 1⟩) := Lib.hid (by unfold Ct.ackS; exact if_pos c)
    clear c
    go_enter Tryz.func95, Tryz.ntmps95
    go_wp2
    go_ret
    exact ⟨by rw [HB.out]; rfl, by rw [HS.out]; exact (HH.out.set 14 (.int .u64 (d : Int))).set 15 (.int .u64 ((n : Int) + 1)), gr_set (gr_set (gr_refl _ _) _ _) _ _⟩
  · have hc : decide (x < m) = true := by simpa using c
    have HB : Hid (Ct.ackB ⟨m, n⟩ x = false) := Lib.hid (by simpa [Ct.ackB] using c)
    have HS : Hid (Ct.ackS ⟨m, n⟩ x d = ⟨m, n⟩) := Lib.hid (by unfold Ct.ackS; exact if_neg c)
    clear c
    go_enter Tryz.func95, Tryz.ntmps95
    go_wp2
    go_ret
    exact ⟨by rw [HB.out]; rfl, by rw [HS.out]; exact HH.out, gr_refl _ _⟩

set_option maxHeartbeats 1000000 in
theorem rpi_Put {E : Nat → Value} (b x : Nat) (r l : Bool) (s : Pi) (w : World) (h : Blk w b 74 (s.ecells E)) (hs : s.ok) (hx : x ≤ 18446744073709551615) :
    Calls Tryz.prog 99 #[.pointer (some ⟨b, 16, none⟩), .int .u64 (x : Int), .bool r, .bool l] w fun e w' => e = .returned (.tuple #[]) ∧ Blk w' b 74 ((s.put x r l).ecells E) ∧ w.grownBy w' (some b) := by
  have h0 := h.cell (i := 16) (v := .int .u64 (s.best : Int)) rfl
  have h1 := h.cell (i := 17) (v := .int .i64 (s.n : Int)) rfl
  have hn := hs.2
  have HX : Hid (∀ W, Calls Tryz.prog 98 #[.int .u64 (x : Int), .int .u64 4] W fun e w' => e = .returned (.int .u64 ((mulS x 4 : Nat) : Int)) ∧ w' = W) := Lib.hid fun W => (ref_Mul x 4 W hx (by decide)).mono fun _ _ h => ⟨h.1, h.2.symm⟩
  have HY : Hid (∀ W, Calls Tryz.prog 98 #[.int .u64 (s.best : Int), .int .u64 5] W fun e w' => e = .returned (.int .u64 ((mulS s.best 5 : Nat) : Int)) ∧ w' = W) := Lib.hid fun W => (ref_Mul s.best 5 W hs.1 (by decide)).mono fun _ _ h => ⟨h.1, h.2.symm⟩
  have HH := Lib.hid h
  have hf : decide ((3 : Int) ≤ (s.n : Int)) = s.full := by unfold Pi.full; exact decide_eq_decide.2 (by omega)
  have hg : grownB x s.best = decide (mulS s.best 5 ≤ mulS x 4) := rfl
  have HP : Hid (∀ f, s.full = f → ∀ g, grownB x s.best = g → s.put x r l = if f = true then s else if r = false then s else if l = true then s else if g = true then ⟨x, 0⟩ else ⟨s.best, s.n + 1⟩) := Lib.hid fun f e g e' => by unfold Pi.put Pi.putB; rw [e, e']
  have HP1 := Lib.hid (HP.out _ rfl _ hg)
  generalize mulS x 4 = p at *
  generalize mulS s.best 5 = q at *
  generalize s.put x r l = s' at *
  generalize s.full = f at *
  clear HP h hs hg
  obtain ⟨y, n⟩ := s
  dsimp only at *
  cases f with
  | true =>
    go_enter Tryz.func99, Tryz.ntmps99
    go_wp2_with fail
    exact bodyPost_ret (v := .tuple #[]) (by simp [results, Tryz.results99, go_sem]) rfl ⟨rfl, by rw [HP1.out]; exact HH.out, gr_refl _ _⟩
  | false =>
    cases r with
    | false =>
      go_enter Tryz.func99, Tryz.ntmps99
      go_wp2_with fail
      exact bodyPost_ret (v := .tuple #[]) (by simp [results, Tryz.results99, go_sem]) rfl ⟨rfl, by rw [HP1.out]; exact HH.out, gr_refl _ _⟩
    | true =>
      cases l with
      | true =>
        go_enter Tryz.func99, Tryz.ntmps99
        go_wp2_with fail
        exact bodyPost_ret (v := .tuple #[]) (by simp [results, Tryz.results99, go_sem]) rfl ⟨rfl, by rw [HP1.out]; exact HH.out, gr_refl _ _⟩
      | false =>
        have hz : n ≤ 2 := by
          have : ¬ ((3 : Int) ≤ (n : Int)) := of_decide_eq_false hf
          omega
        go_enter Tryz.func99, Tryz.ntmps99
        go_wp2_with fail
        go_quiet (first | (go_at_call 98; with_reducible exact Calls.quiet_of_same (HX.out _)) | (go_at_call 98; with_reducible exact Calls.quiet_of_same (HY.out _)))
        have Q := Lib.hid (show Blk (w.drewN nq) b 74 (Pi.ecells E ⟨y, n⟩) from HH.out)
        have G : Hid (w.grownBy (w.drewN nq) (some b)) := Lib.hid (gr_below ((Drawn.below ⟨nq, rfl⟩ _)) _)
        have q0 := Q.out.cell (i := 16) (v := .int .u64 (y : Int)) rfl
        have q1 := Q.out.cell (i := 17) (v := .int .i64 (n : Int)) rfl
        have f0 := Q.out.free 16
        have f1 := Q.out.free 17
        generalize w.drewN nq = wq at *
        clear h0 h1 HH
        by_cases c : q ≤ p
        · have hc : decide (q ≤ p) = true := decide_eq_true c
          rw [hc] at HP1
          clear hc
          go_wp2_with fail
          go_end0
          exact ⟨rfl, by rw [HP1.out]; exact (Q.out.set 16 (.int .u64 (x : Int))).set 17 (.int .i64 0), gr_set (gr_set G.out _ _) _ _⟩
        · have hc : decide (q ≤ p) = false := decide_eq_false c
          rw [hc] at HP1
          clear hc
          go_wp2_with fail
          go_end0
          exact ⟨rfl, by rw [HP1.out]; exact Q.out.set 17 (.int .i64 ((n : Int) + 1)), gr_set G.out _ _⟩
end Go.Proofs.YtpkbjfhicocogaaGreatDoor
