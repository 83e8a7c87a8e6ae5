/- RoundCounts over this translation: the walk. -/
import Derived.Test.YtdokacilgdcnjaaLaw11a
import Derived.Test.YtdokacilgdcnjaaIn11a
import Derived.StillTailTactics
set_option linter.unusedVariables false
namespace Go.Proofs.Ytdokacilgdcnjaa
open Go.RowKit Pl

theorem cell_dr {w : World} {p : Addr} {v : Value} (h : w.cell? p = some v) : w.drew.cell? p = some v := h
theorem cell_drN {w : World} {p : Addr} {v : Value} (n : Nat) (h : w.cell? p = some v) : (w.drewN n).cell? p = some v := by rw [Drawn.cell ⟨n, rfl⟩]; exact h

theorem far_cell {w w' : World} {b c o : Nat} {v : Value} (g : w.grownBy w' (some c)) (hb : b < w.heap.size) (hne : b ≠ c) (h : w.cell? ⟨b, o, none⟩ = some v) : w'.cell? ⟨b, o, none⟩ = some v :=
  g.cell h (fun e => hne (Option.some.inj e))

theorem counts_long (v : Option Addr) (c b off : Nat) (l : List Pr2) (W : World) (h : InPr2 W v l b off) (hf : 200 < l.length) :
    Calls Try.prog 3 #[.slice v l.length c] W fun e w' => e = .returned (.bool true) ∧ Below W.heap.size W w' := by
  have HA := Lib.hid (alive11 W)
  have hm := h.1
  have hc : decide (200 < (l.length : Int)) = true := by simp; omega
  clear h
  go_enter Try.func3, Try.ntmps3
  go_wp2_with (go_at_call 5; refine (HA.out).mono ?_; rintro e w' ⟨rfl, hb⟩)
  go_ret
  exact ⟨rfl, hb⟩

/-- What holds of both counters at the head of each round. -/
def CntRel (W : World) (n k : Nat) (wr : World) : Prop :=
  k ≤ n ∧ ∃ s : Ct, s.n ≤ k ∧ Own W W.heap.size 45 s.cells wr ∧ Own W (W.heap.size + 1) 29 s.cells wr

set_option maxHeartbeats 4000000 in
set_option maxRecDepth 100000 in
theorem counts_few (v : Option Addr) (c b off : Nat) (l : List Pr2) (W : World) (h : InPr2 W v l b off) (hf : l.length ≤ 200) :
    Calls Try.prog 3 #[.slice v l.length c] W fun e w' => e = .returned (.bool true) ∧ Below W.heap.size W w' := by
  have HI := Lib.hid h
  have HN := Lib.hid (ct_New W)
  have HA := Lib.hid alive11
  have hc : decide (200 < (l.length : Int)) = false := by simp; omega
  have hc' : decide (200 < l.length) = false := by simp; omega
  have O1 : Hid (Own W W.heap.size 45 Ct.zero.cells (W.alloc (.cells Ct.zero.cells 45))) := Lib.hid (Own.new (Below.refl _ _) _ _)
  clear h
  go_enter Try.func3, Try.ntmps3
  go_wp2_with fail
  refine (HN.out).mono ?_
  rintro e w1 ⟨rfl, hw1⟩
  have hsz : w1.heap.size = W.heap.size + 1 := by rw [← hw1]; simp
  rw [hw1] at O1
  have O2 := Lib.hid (Own.new O1.out.bel 29 Ct.zero.cells)
  have O1' := Lib.hid (O1.out.keep ((Below.refl _ _).alloc (Nat.le_refl _) (.cells Ct.zero.cells 29)))
  rw [hsz] at O2
  clear hw1 HN O1
  go_wp2_with fail
  clear hsz
  go_loopw [5] (fun i wr => ∃ k : Nat, i = .int .i64 (k : Int) ∧ CntRel W l.length k wr) (fun i _ => l.length - (intOf i).toNat)
  case atStart => exact ⟨0, rfl, Nat.zero_le _, Ct.zero, Nat.le_refl _, O1'.out, O2.out⟩
  case round =>
    obtain ⟨k, rfl, hk, s, hs, hO1, hO2⟩ := hrel
    have A1 := Lib.hid hO1
    have A2 := Lib.hid hO2
    clear hO1 hO2 O1' O2
    by_cases hlt : k < l.length
    · obtain ⟨rfl, hb0⟩ := HI.out.2.1 (by omega)
      have HQ := Lib.hid (HI.out.2.2 k hlt)
      have i0 : (0 : Int) ≤ (k : Int) := by omega
      have i1 : (k : Int) < (l.length : Int) := by omega
      generalize l.getD k default = q at *
      have hx := HQ.out.b0
      have hd := HQ.out.b1
      have Q1 := HQ.out.keep hb0 A1.out.bel
      have c0 := cell_dr Q1.k0
      have c1 := cell_dr Q1.k1
      have HAc := Lib.hid (ct_Ack _ q.x q.y s wr.drew A1.out.blk.drew (by omega))
      have HNb : Hid (b < W.heap.size) := Lib.hid hb0
      have HLt : Hid (W.heap.size ≤ wr.drew.heap.size) := Lib.hid A1.out.bel.size
      have HNe : Hid (b ≠ W.heap.size) := Lib.hid (by omega)
      have D1 := Lib.hid (A1.out.keep ((Drawn.drew wr).below _))
      have D2 := Lib.hid (A2.out.keep ((Drawn.drew wr).below _))
      clear Q1 hb0
      go_wp2_with fail
      go_region_held3 (fun w' => w'.cell? ⟨b, off + k * 2, none⟩ = some (.int .u64 (q.x : Int)) ∧ w'.cell? ⟨b, off + k * 2 + 1, none⟩ = some (.int .u64 (q.y : Int)))
        (first | with_reducible exact ⟨c0, c1⟩ | with_reducible exact ⟨e0, e1⟩)
        (first | (go_at_call 7; refine (HAc.out).mono ?_; rintro e w3 ⟨rfl, h3, g3⟩; have e0 := far_cell g3 (Nat.lt_of_lt_of_le HNb.out HLt.out) HNe.out c0; have e1 := far_cell g3 (Nat.lt_of_lt_of_le HNb.out HLt.out) HNe.out c1; have B1 := Lib.hid (D1.out.gr h3 g3); have B2 := Lib.hid (D2.out.other g3 (Nat.le_refl _) (by omega)); clear h3 g3))
      clear HAc c0 c1 A1 A2 D1 D2 e0 e1
      have Q1 := HQ.out.keep HNb.out B1.out.bel
      have c0 := cell_dr Q1.k0
      have c1 := cell_dr Q1.k1
      have HAc := Lib.hid (rct_Ack _ q.x q.y s w3.drew B2.out.blk.drew (by omega))
      have HLt : Hid (W.heap.size ≤ w3.drew.heap.size) := Lib.hid B1.out.bel.size
      have HNe : Hid (b ≠ W.heap.size + 1) := Lib.hid (by have := HNb.out; omega)
      have D1 := Lib.hid (B1.out.keep ((Drawn.drew w3).below _))
      have D2 := Lib.hid (B2.out.keep ((Drawn.drew w3).below _))
      clear Q1
      go_wp2_with fail
      go_region_held3 (fun w' => w'.cell? ⟨b, off + k * 2, none⟩ = some (.int .u64 (q.x : Int)) ∧ w'.cell? ⟨b, off + k * 2 + 1, none⟩ = some (.int .u64 (q.y : Int)))
        (first | with_reducible exact ⟨c0, c1⟩ | with_reducible exact ⟨e0, e1⟩)
        (first | (go_at_call 8; refine (HAc.out).mono ?_; rintro e w5 ⟨rfl, h3, g3⟩; have e0 := far_cell g3 (Nat.lt_of_lt_of_le HNb.out HLt.out) HNe.out c0; have e1 := far_cell g3 (Nat.lt_of_lt_of_le HNb.out HLt.out) HNe.out c1; have C2 := Lib.hid (D2.out.gr h3 g3); have C1 := Lib.hid (D1.out.other g3 (Nat.le_succ _) (by omega)); clear h3 g3))
      have HS := Lib.hid (Nat.le_trans (Ct.ackS_n s q.x q.y) (Nat.succ_le_succ hs))
      clear HAc c0 c1 B1 B2 D1 D2 e0 e1
      generalize s.ackS q.x q.y = s' at *
      generalize s.ackB q.x = r at *
      have HCo : Hid (∀ n, Calls Try.prog 9 #[.pointer (some ⟨W.heap.size, 0, none⟩)] (w5.drewN n) fun e w' => e = .returned (.int .u64 (s'.n : Int)) ∧ w' = w5.drewN n) := Lib.hid fun n => (ct_Count _ s' _ (C1.out.drew n).blk).mono fun _ _ h => ⟨h.1, h.2.symm⟩
      have m1 := C2.out.blk.cell (i := 1) (v := .int .u64 (s'.n : Int)) rfl
      have hr : (r != r) = false := by simp
      go_wp2_with fail
      go_quiet (first | (go_at_call 9; exact Calls.quiet_of_same (HCo.out _)))
      have E1 := Lib.hid (C1.out.drew nq)
      have E2 := Lib.hid (C2.out.drew nq)
      go_wp2_with fail
      go_roundw
      case rel => exact ⟨k + 1, by go_num, by omega, s', HS.out, E1.out, E2.out⟩
      case measure => simp [intOf]; omega
    · have B1 := Lib.hid A1.out.bel
      have HSz := Lib.hid A1.out.bel.size
      clear A1 A2
      go_wp2_with fail
      refine (HA.out _).mono ?_
      rintro e w3 ⟨rfl, k3⟩
      have B2 := Lib.hid (bel_to B1.out k3 HSz.out)
      clear k3 B1
      go_wp2_with fail
      refine (ct_Ack_nil _ _ _).mono ?_
      rintro e w4 ⟨rfl, rfl⟩
      go_wp2_with fail
      refine (ct_Count_nil _).mono ?_
      rintro e w4 ⟨rfl, rfl⟩
      go_wp2_with fail
      go_ret
      exact ⟨rfl, B2.out⟩

theorem RoundCounts_walk (v : Option Addr) (len c : Nat) (l : List Pr2) (b off : Nat) (W : World) (h : l.length = len ∧ InPr2 W v l b off) :
    Calls Try.prog 3 #[.slice v len c] W fun e w' => e = .returned (.bool true) ∧ Below W.heap.size W w' := by
  obtain ⟨rfl, h⟩ := h
  by_cases hl : 200 < l.length
  · exact counts_long v c b off l W h hl
  · exact counts_few v c b off l W h (by omega)
end Go.Proofs.Ytdokacilgdcnjaa
