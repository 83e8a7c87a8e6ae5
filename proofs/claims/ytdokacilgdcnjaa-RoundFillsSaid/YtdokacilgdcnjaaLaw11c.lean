/- RoundFills over this translation: the walk. -/
import Derived.Test.YtdokacilgdcnjaaLaw11b
import Derived.Test.YtdokacilgdcnjaaIn11b
set_option linter.unusedVariables false
namespace Go.Proofs.Ytdokacilgdcnjaa
open Go.RowKit Pl

theorem fills_long (v : Option Addr) (c b off : Nat) (l : List Rt11) (W : World) (h : InRt11 W v l b off) (hf : 200 < l.length) :
    Calls Try.prog 4 #[.slice v l.length c] W fun e w' => e = .returned (.bool true) ∧ Below W.heap.size W w' := by
  have HA := Lib.hid (alive11 W)
  have hm := h.1
  have hc : decide (200 < (l.length : Int)) = true := by simp; omega
  clear h
  go_enter Try.func4, Try.ntmps4
  go_wp2_with (go_at_call 5; refine (HA.out).mono ?_; rintro e w' ⟨rfl, hb⟩)
  go_ret
  exact ⟨rfl, hb⟩

/-- What holds of both pipes at the head of each round. -/
def FilRel (W : World) (n k : Nat) (wr : World) : Prop :=
  k ≤ n ∧ ∃ s : Pi, s.ok ∧ Own W W.heap.size 47 s.cells wr ∧ Own W (W.heap.size + 1) 39 s.rcells wr

set_option maxHeartbeats 4000000 in
set_option maxRecDepth 100000 in
theorem fills_few (v : Option Addr) (c b off : Nat) (l : List Rt11) (W : World) (h : InRt11 W v l b off) (hf : l.length ≤ 200) :
    Calls Try.prog 4 #[.slice v l.length c] W fun e w' => e = .returned (.bool true) ∧ Below W.heap.size W w' := by
  have HI := Lib.hid h
  have HN := Lib.hid (pi_Empty W)
  have HA := Lib.hid alive11
  have hc : decide (200 < (l.length : Int)) = false := by simp; omega
  have hc' : decide (200 < l.length) = false := by simp; omega
  have O1 : Hid (Own W W.heap.size 47 Pi.zero.cells (W.alloc (.cells Pi.zero.cells 47))) := Lib.hid (Own.new (Below.refl _ _) _ _)
  clear h
  go_enter Try.func4, Try.ntmps4
  go_wp2_with fail
  refine (HN.out).mono ?_
  rintro e w1 ⟨rfl, hw1⟩
  have hsz : w1.heap.size = W.heap.size + 1 := by rw [← hw1]; simp
  rw [hw1] at O1
  have O2 := Lib.hid (Own.new O1.out.bel 39 Pi.zero.rcells)
  have O1' := Lib.hid (O1.out.keep ((Below.refl _ _).alloc (Nat.le_refl _) (.cells Pi.zero.rcells 39)))
  rw [hsz] at O2
  clear hw1 HN O1
  go_wp2_with fail
  clear hsz
  go_loopw [5] (fun i wr => ∃ k : Nat, i = .int .i64 (k : Int) ∧ FilRel W l.length k wr) (fun i _ => l.length - (intOf i).toNat)
  case atStart => exact ⟨0, rfl, Nat.zero_le _, Pi.zero, ⟨by decide, by decide⟩, O1'.out, O2.out⟩
  case round =>
    obtain ⟨k, rfl, hk, s, hs, hO1, hO2⟩ := hrel
    have A1 := Lib.hid hO1
    have A2 := Lib.hid hO2
    have HS := Lib.hid hs
    clear hO1 hO2 O1' O2 hs
    by_cases hlt : k < l.length
    · obtain ⟨rfl, hb0⟩ := HI.out.2.1 (by omega)
      have HQ := Lib.hid (HI.out.2.2 k hlt)
      have i0 : (0 : Int) ≤ (k : Int) := by omega
      have i1 : (k : Int) < (l.length : Int) := by omega
      generalize l.getD k default = q at *
      have HX := Lib.hid HQ.out.b0
      have Q1 := HQ.out.keep hb0 A1.out.bel
      have c0 := cell_dr Q1.k0
      have c1 := cell_dr Q1.k1
      have c2 := cell_dr Q1.k2
      have HFu := Lib.hid (pi_Full _ s wr A1.out.blk)
      have HBe := Lib.hid (pi_Best _ s wr A1.out.blk)
      have HPu := Lib.hid (pi_Put _ q.rate q.rnd q.lim s wr.drew A1.out.blk.drew HS.out HX.out)
      have HNb : Hid (b < W.heap.size) := Lib.hid hb0
      have HLt : Hid (W.heap.size ≤ wr.drew.heap.size) := Lib.hid A1.out.bel.size
      have HNe : Hid (b ≠ W.heap.size) := Lib.hid (by omega)
      have D1 := Lib.hid (A1.out.keep ((Drawn.drew wr).below _))
      have D2 := Lib.hid (A2.out.keep ((Drawn.drew wr).below _))
      have HKe : Hid (s.full = true → s.put q.rate q.rnd q.lim = s) := Lib.hid fun e => Pi.put_full e _ _ _
      generalize hfu : s.full = fu at *
      have HFE := Lib.hid hfu
      generalize hbe : s.best = be at *
      have HBE := Lib.hid hbe
      clear Q1 hb0 hfu hbe
      go_wp2_with fail
      refine (HFu.out).mono ?_
      rintro e w2 ⟨rfl, rfl⟩
      go_wp2_with fail
      refine (HBe.out).mono ?_
      rintro e w2 ⟨rfl, rfl⟩
      go_wp2_with fail
      go_region_held3 (fun w' => w'.cell? ⟨b, off + k * 3, none⟩ = some (.int .u64 (q.rate : Int)) ∧ w'.cell? ⟨b, off + k * 3 + 1, none⟩ = some (.bool q.rnd) ∧ w'.cell? ⟨b, off + k * 3 + 2, none⟩ = some (.bool q.lim))
        (first | with_reducible exact ⟨c0, c1, c2⟩ | with_reducible exact ⟨e0, e1, e2⟩)
        (first | (go_at_call 13; refine (HPu.out).mono ?_; rintro e w3 ⟨rfl, h3, g3⟩; have e0 := far_cell g3 (Nat.lt_of_lt_of_le HNb.out HLt.out) HNe.out c0; have e1 := far_cell g3 (Nat.lt_of_lt_of_le HNb.out HLt.out) HNe.out c1; have e2 := far_cell g3 (Nat.lt_of_lt_of_le HNb.out HLt.out) HNe.out c2; have B1 := Lib.hid (D1.out.gr h3 g3); have B2 := Lib.hid (D2.out.other g3 (Nat.le_refl _) (by omega)); clear h3 g3))
      clear HPu HFu HBe c0 c1 c2 A1 A2 D1 D2 e0 e1 e2
      have Q1 := HQ.out.keep HNb.out B1.out.bel
      have c0 := cell_dr Q1.k0
      have c1 := cell_dr Q1.k1
      have c2 := cell_dr Q1.k2
      have HPu := Lib.hid (rpi_Put _ q.rate q.rnd q.lim s w3.drew B2.out.blk.drew HS.out HX.out)
      have HLt : Hid (W.heap.size ≤ w3.drew.heap.size) := Lib.hid B1.out.bel.size
      have HNe : Hid (b ≠ W.heap.size + 1) := Lib.hid (by have := HNb.out; omega)
      have D1 := Lib.hid (B1.out.keep ((Drawn.drew w3).below _))
      have D2 := Lib.hid (B2.out.keep ((Drawn.drew w3).below _))
      clear Q1
      go_wp2_with fail
      go_region_held3 (fun w' => w'.cell? ⟨b, off + k * 3, none⟩ = some (.int .u64 (q.rate : Int)) ∧ w'.cell? ⟨b, off + k * 3 + 1, none⟩ = some (.bool q.rnd) ∧ w'.cell? ⟨b, off + k * 3 + 2, none⟩ = some (.bool q.lim))
        (first | with_reducible exact ⟨c0, c1, c2⟩ | with_reducible exact ⟨e0, e1, e2⟩)
        (first | (go_at_call 14; refine (HPu.out).mono ?_; rintro e w5 ⟨rfl, h3, g3⟩; have e0 := far_cell g3 (Nat.lt_of_lt_of_le HNb.out HLt.out) HNe.out c0; have e1 := far_cell g3 (Nat.lt_of_lt_of_le HNb.out HLt.out) HNe.out c1; have e2 := far_cell g3 (Nat.lt_of_lt_of_le HNb.out HLt.out) HNe.out c2; have C2 := Lib.hid (D2.out.gr h3 g3); have C1 := Lib.hid (D1.out.other g3 (Nat.le_succ _) (by omega)); clear h3 g3))
      have HS2 := Lib.hid (Pi.put_ok HS.out HX.out q.rnd q.lim)
      clear HPu c0 c1 c2 B1 B2 D1 D2 e0 e1 e2 HS
      generalize s.put q.rate q.rnd q.lim = s' at *
      have HFu : Hid (∀ n, Calls Try.prog 11 #[.pointer (some ⟨W.heap.size, 0, none⟩)] (w5.drewN n) fun e w' => e = .returned (.bool s'.full) ∧ w' = w5.drewN n) := Lib.hid fun n => (pi_Full _ s' _ (C1.out.drew n).blk).mono fun _ _ h => ⟨h.1, h.2.symm⟩
      have HBe : Hid (∀ n, Calls Try.prog 12 #[.pointer (some ⟨W.heap.size, 0, none⟩)] (w5.drewN n) fun e w' => e = .returned (.int .u64 (s'.best : Int)) ∧ w' = w5.drewN n) := Lib.hid fun n => (pi_Best _ s' _ (C1.out.drew n).blk).mono fun _ _ h => ⟨h.1, h.2.symm⟩
      have m0 := C2.out.blk.cell (i := 0) (v := .int .u64 (s'.best : Int)) rfl
      have m1 := C2.out.blk.cell (i := 1) (v := .int .i64 (s'.n : Int)) rfl
      have hf3 : decide ((3 : Int) ≤ (s'.n : Int)) = s'.full := by unfold Pi.full; exact decide_eq_decide.2 (by omega)
      have HKe : Hid (fu = true → s'.full = true ∧ s'.best = be) := Lib.hid fun e => by have := HKe.out e; rw [this, HFE.out, HBE.out]; exact ⟨e, rfl⟩
      clear HFE HBE
      generalize hnn : s'.n = n' at *
      generalize hbb : s'.best = b' at *
      generalize hff : s'.full = f' at *
      have hr : (f' != f') = false := by simp
      cases fu with
      | true =>
        obtain ⟨rfl, rfl⟩ := HKe.out rfl
        clear HKe hff hbb hnn
        go_wp2_with fail
        go_quiet (first | (go_at_call 11; exact Calls.quiet_of_same (HFu.out _)) | (go_at_call 12; exact Calls.quiet_of_same (HBe.out _)))
        have E1 := Lib.hid (C1.out.drew nq)
        have E2 := Lib.hid (C2.out.drew nq)
        go_wp2_with fail
        go_roundw
        case rel => exact ⟨k + 1, by go_num, by omega, s', HS2.out, E1.out, E2.out⟩
        case measure => simp [intOf]; omega
      | false =>
        clear HKe hff hbb hnn
        go_wp2_with fail
        go_quiet (first | (go_at_call 11; exact Calls.quiet_of_same (HFu.out _)) | (go_at_call 12; exact Calls.quiet_of_same (HBe.out _)))
        have E1 := Lib.hid (C1.out.drew nq)
        have E2 := Lib.hid (C2.out.drew nq)
        go_wp2_with fail
        go_roundw
        case rel => exact ⟨k + 1, by go_num, by omega, s', HS2.out, E1.out, E2.out⟩
        case measure => simp [intOf]; omega
    · have B1 := Lib.hid A1.out.bel
      have HSz := Lib.hid A1.out.bel.size
      clear A1 A2
      go_wp2_with fail
      refine (pi_Put_nil _ _ _ _).mono ?_
      rintro e w4 ⟨rfl, rfl⟩
      go_wp2_with fail
      refine (HA.out _).mono ?_
      rintro e w3 ⟨rfl, k3⟩
      have B2 := Lib.hid (bel_to B1.out k3 HSz.out)
      clear k3 B1
      go_wp2_with fail
      refine (pi_Full_nil _).mono ?_
      rintro e w4 ⟨rfl, rfl⟩
      go_wp2_with fail
      refine (pi_Best_nil _).mono ?_
      rintro e w4 ⟨rfl, rfl⟩
      go_wp2_with fail
      go_ret
      exact ⟨rfl, B2.out⟩

theorem RoundFills_walk (v : Option Addr) (len c : Nat) (l : List Rt11) (b off : Nat) (W : World) (h : l.length = len ∧ InRt11 W v l b off) :
    Calls Try.prog 4 #[.slice v len c] W fun e w' => e = .returned (.bool true) ∧ Below W.heap.size W w' := by
  obtain ⟨rfl, h⟩ := h
  by_cases hl : 200 < l.length
  · exact fills_long v c b off l W h hl
  · exact fills_few v c b off l W h (by omega)
end Go.Proofs.Ytdokacilgdcnjaa
