/- PacerTwice over this translation: in two, the same credit. -/
import Derived.Test.YtafmfkgaijnfbaaLaw16t
import Derived.StillTailTactics
set_option linter.unusedVariables false
namespace Go.Proofs.Ytafmfkgaijnfbaa
open Go.RowKit

theorem tw_long (v : Option Addr) (c b off x y : Nat) (l : List Act16) (W : World) (h : InAct16 W v l b off) (hf : 200 < l.length) :
    Calls Try.prog 6 #[.slice v l.length c, .int .u32 (x : Int), .int .u32 (y : Int)] W fun e w' => e = .returned (.bool true) ∧ Below W.heap.size W w' := by
  have HA := Lib.hid (alive16 W)
  have hm := h.1
  have d0 : decide ((200 : Int) < (l.length : Int)) = true := decide_eq_true (by omega)
  have d0' : decide (200 < l.length) = true := decide_eq_true (by omega)
  clear h hf
  go_enter Try.func6, Try.ntmps6
  go_wp2_with (go_at_call 7; refine (HA.out).mono ?_; rintro e w' ⟨rfl, hb⟩)
  go_ret
  exact ⟨rfl, hb⟩

theorem tw_bigx (v : Option Addr) (c b off x y : Nat) (l : List Act16) (W : World) (h : InAct16 W v l b off) (hf : l.length ≤ 200) (hx : 1048576 < x) :
    Calls Try.prog 6 #[.slice v l.length c, .int .u32 (x : Int), .int .u32 (y : Int)] W fun e w' => e = .returned (.bool true) ∧ Below W.heap.size W w' := by
  have HA := Lib.hid (alive16 W)
  have hm := h.1
  have d0 : decide ((200 : Int) < (l.length : Int)) = false := decide_eq_false (by omega)
  have d0' : decide (200 < l.length) = false := decide_eq_false (by omega)
  have d1 : decide ((1048576 : Int) < (x : Int)) = true := decide_eq_true (by omega)
  have d1' : decide (1048576 < x) = true := decide_eq_true (by omega)
  clear h hf hx
  go_enter Try.func6, Try.ntmps6
  go_wp2_with (go_at_call 7; refine (HA.out).mono ?_; rintro e w' ⟨rfl, hb⟩)
  go_ret
  exact ⟨rfl, hb⟩

theorem tw_bigy (v : Option Addr) (c b off x y : Nat) (l : List Act16) (W : World) (h : InAct16 W v l b off) (hf : l.length ≤ 200) (hx : x ≤ 1048576) (hy : 1048576 < y) :
    Calls Try.prog 6 #[.slice v l.length c, .int .u32 (x : Int), .int .u32 (y : Int)] W fun e w' => e = .returned (.bool true) ∧ Below W.heap.size W w' := by
  have HA := Lib.hid (alive16 W)
  have hm := h.1
  have d0 : decide ((200 : Int) < (l.length : Int)) = false := decide_eq_false (by omega)
  have d0' : decide (200 < l.length) = false := decide_eq_false (by omega)
  have d1 : decide ((1048576 : Int) < (x : Int)) = false := decide_eq_false (by omega)
  have d1' : decide (1048576 < x) = false := decide_eq_false (by omega)
  have d2 : decide ((1048576 : Int) < (y : Int)) = true := decide_eq_true (by omega)
  have d2' : decide (1048576 < y) = true := decide_eq_true (by omega)
  clear h hf hx hy
  go_enter Try.func6, Try.ntmps6
  go_wp2_with (go_at_call 7; refine (HA.out).mono ?_; rintro e w' ⟨rfl, hb⟩)
  go_ret
  exact ⟨rfl, hb⟩

set_option maxRecDepth 100000 in
set_option maxHeartbeats 8000000 in
theorem tw_short (v : Option Addr) (c b off x y : Nat) (l : List Act16) (W : World) (h : InAct16 W v l b off) (hf : l.length ≤ 200) (hx : x ≤ 1048576) (hy : y ≤ 1048576) :
    Calls Try.prog 6 #[.slice v l.length c, .int .u32 (x : Int), .int .u32 (y : Int)] W fun e w' => e = .returned (.bool true) ∧ Below W.heap.size W w' := by
  have HL := Lib.hid h
  have HA := Lib.hid alive16
  have hc : decide (200 < l.length) = false := decide_eq_false (by omega)
  have hc' : decide ((200 : Int) < (l.length : Int)) = false := decide_eq_false (by omega)
  have D0 := Lib.hid (du_start W)
  have d1 : decide ((1048576 : Int) < (x : Int)) = false := decide_eq_false (by omega)
  have d1' : decide (1048576 < x) = false := decide_eq_false (by omega)
  have d2 : decide ((1048576 : Int) < (y : Int)) = false := decide_eq_false (by omega)
  have d2' : decide (1048576 < y) = false := decide_eq_false (by omega)
  clear h
  go_enter Try.func6, Try.ntmps6
  go_wp2_with fail
  refine (pc_New _).mono ?_
  rintro e w0 ⟨rfl, rfl⟩
  go_wp2_with fail
  refine (pc_New _).mono ?_
  rintro e w0 ⟨rfl, rfl⟩
  go_wp2_with fail
  go_loopw [10] (fun i wr => ∃ (k : Nat) (s : PS), i = .int .i64 (k : Int) ∧ Du16 W l.length k s wr) (fun i _ => l.length - (intOf i).toNat)
  case atStart =>
    exact ⟨0, PS.zero, rfl, Nat.zero_le _, PS.small_zero, D0.out⟩
  case round =>
    clear D0
    obtain ⟨k, s, rfl, hk, hs, ht⟩ := hrel
    have HS := Lib.hid hs
    have T0 := Lib.hid ht
    clear hs ht
    by_cases hlt : k < l.length
    · have hq := HL.out.2.2 k hlt
      have hB := (HL.out.2.1 (by omega)).2
      obtain rfl := (HL.out.2.1 (by omega)).1
      generalize l.getD k default = q at *
      have c0 := act_at0 hB T0.out.bel hq.k0
      have c1 := act_at hB T0.out.bel hq.k1
      have c2 := act_at hB T0.out.bel hq.k2
      have c3 := act_at hB T0.out.bel hq.k3
      have c4 := act_at hB T0.out.bel hq.k4
      have hk0 := hq.b0
      have hkl : (k : Int) < (l.length : Int) := by omega
      have T1 := Lib.hid (T0.out.to (al_be _ (.cells #[.int .u8 (q.k : Int), .int .u64 (q.n : Int), .int .u64 (q.r : Int), .int .u64 (q.q : Int), .int .u64 (q.x : Int)] 31)))
      have A1 := Lib.hid (Blk.new wr 31 #[.int .u8 (q.k : Int), .int .u64 (q.n : Int), .int .u64 (q.r : Int), .int .u64 (q.q : Int), .int .u64 (q.x : Int)])
      by_cases hbig : 1048576 < q.n ∨ 1048576 < q.r ∨ 1048576 < q.q ∨ 1048576 < q.x
      · rcases (show 1048576 < q.n ∨ (q.n ≤ 1048576 ∧ 1048576 < q.r) ∨ (q.n ≤ 1048576 ∧ q.r ≤ 1048576 ∧ 1048576 < q.q) ∨ (q.n ≤ 1048576 ∧ q.r ≤ 1048576 ∧ q.q ≤ 1048576 ∧ 1048576 < q.x) by omega) with hb1 | hb1 | hb1 | hb1
        · have d0 : decide ((1048576 : Int) < (q.n : Int)) = true := decide_eq_true (by omega)
          have e0 : decide (1048576 < q.n) = true := decide_eq_true (by omega)
          clear hb1 hbig hq hk0
          go_wp2_with (go_at_call 7; refine (HA.out _).mono ?_; rintro e w' ⟨rfl, hb⟩)
          go_ret
          exact ⟨rfl, bel_to T1.out.bel hb T1.out.bel.size⟩
        · have d0 : decide ((1048576 : Int) < (q.n : Int)) = false := decide_eq_false (by omega)
          have e0 : decide (1048576 < q.n) = false := decide_eq_false (by omega)
          have d1 : decide ((1048576 : Int) < (q.r : Int)) = true := decide_eq_true (by omega)
          have e1 : decide (1048576 < q.r) = true := decide_eq_true (by omega)
          clear hb1 hbig hq hk0
          go_wp2_with (go_at_call 7; refine (HA.out _).mono ?_; rintro e w' ⟨rfl, hb⟩)
          go_ret
          exact ⟨rfl, bel_to T1.out.bel hb T1.out.bel.size⟩
        · have d0 : decide ((1048576 : Int) < (q.n : Int)) = false := decide_eq_false (by omega)
          have e0 : decide (1048576 < q.n) = false := decide_eq_false (by omega)
          have d1 : decide ((1048576 : Int) < (q.r : Int)) = false := decide_eq_false (by omega)
          have e1 : decide (1048576 < q.r) = false := decide_eq_false (by omega)
          have d2 : decide ((1048576 : Int) < (q.q : Int)) = true := decide_eq_true (by omega)
          have e2 : decide (1048576 < q.q) = true := decide_eq_true (by omega)
          clear hb1 hbig hq hk0
          go_wp2_with (go_at_call 7; refine (HA.out _).mono ?_; rintro e w' ⟨rfl, hb⟩)
          go_ret
          exact ⟨rfl, bel_to T1.out.bel hb T1.out.bel.size⟩
        · have d0 : decide ((1048576 : Int) < (q.n : Int)) = false := decide_eq_false (by omega)
          have e0 : decide (1048576 < q.n) = false := decide_eq_false (by omega)
          have d1 : decide ((1048576 : Int) < (q.r : Int)) = false := decide_eq_false (by omega)
          have e1 : decide (1048576 < q.r) = false := decide_eq_false (by omega)
          have d2 : decide ((1048576 : Int) < (q.q : Int)) = false := decide_eq_false (by omega)
          have e2 : decide (1048576 < q.q) = false := decide_eq_false (by omega)
          have d3 : decide ((1048576 : Int) < (q.x : Int)) = true := decide_eq_true (by omega)
          have e3 : decide (1048576 < q.x) = true := decide_eq_true (by omega)
          clear hb1 hbig hq hk0
          go_wp2_with (go_at_call 7; refine (HA.out _).mono ?_; rintro e w' ⟨rfl, hb⟩)
          go_ret
          exact ⟨rfl, bel_to T1.out.bel hb T1.out.bel.size⟩
      · have hn := (show q.n ≤ 1048576 by omega)
        have hrr := (show q.r ≤ 1048576 by omega)
        have hqq := (show q.q ≤ 1048576 by omega)
        have hxx := (show q.x ≤ 1048576 by omega)
        have HN := Lib.hid hn
        have HR := Lib.hid hrr
        have HQ := Lib.hid hqq
        have d0 : decide ((1048576 : Int) < (q.n : Int)) = false := decide_eq_false (by omega)
        have e0 : decide (1048576 < q.n) = false := decide_eq_false (by omega)
        have d1 : decide ((1048576 : Int) < (q.r : Int)) = false := decide_eq_false (by omega)
        have e1 : decide (1048576 < q.r) = false := decide_eq_false (by omega)
        have d2 : decide ((1048576 : Int) < (q.q : Int)) = false := decide_eq_false (by omega)
        have e2 : decide (1048576 < q.q) = false := decide_eq_false (by omega)
        have d3 : decide ((1048576 : Int) < (q.x : Int)) = false := decide_eq_false (by omega)
        have e3 : decide (1048576 < q.x) = false := decide_eq_false (by omega)
        have HP : Hid (∀ s2 w, Duo W s s2 s.t s.r s.q w → Calls Try.prog 9 #[.pointer (some ⟨W.heap.size, 0, none⟩), .int .u64 (q.n : Int), .int .u64 (q.r : Int), .int .u64 (q.q : Int)] w fun e w' => e = .returned (.int .i64 (s.tickE q.n)) ∧ Hid (Duo W (s.tickS q.n q.r q.q) s2 s.t s.r s.q w') ∧ w.grownBy w' (some (W.heap.size))) := Lib.hid (fun s2 w h => (pc_Tick _ q.n q.r q.q s w h.p HS.out.ok hq.b1 hq.b2 hq.b3).mono fun e w' k => ⟨k.e, Lib.hid (h.pp k), k.gr⟩)
        have HM : Hid (∀ s1 w, Duo W s1 s s.t s.r s.q w → Calls Try.prog 9 #[.pointer (some ⟨W.heap.size + 1, 0, none⟩), .int .u64 (q.n : Int), .int .u64 (q.r : Int), .int .u64 (q.q : Int)] w fun e w' => e = .returned (.int .i64 (s.tickE q.n)) ∧ Hid (Duo W s1 (s.tickS q.n q.r q.q) s.t s.r s.q w') ∧ w.grownBy w' (some (W.heap.size + 1))) := Lib.hid (fun s1 w h => (pc_Tick _ q.n q.r q.q s w h.m HS.out.ok hq.b1 hq.b2 hq.b3).mono fun e w' k => ⟨k.e, Lib.hid (h.mm k), k.gr⟩)
        have HT : Hid (∀ s2 w, Duo W s s2 s.t s.r s.q w → Calls Try.prog 11 #[.pointer (some ⟨W.heap.size, 0, none⟩), .int .u64 (q.x : Int)] w fun e w' => e = .returned (.bool (s.takeB q.x)) ∧ Hid (Duo W (s.takeS q.x) s2 s.t s.r s.q w') ∧ w.grownBy w' (some (W.heap.size))) := Lib.hid (fun s2 w h => (pc_Take _ q.x s w h.p HS.out.ok hq.b4).mono fun e w' k => ⟨k.e, Lib.hid (h.pp k), k.gr⟩)
        have HU : Hid (∀ s1 w, Duo W s1 s s.t s.r s.q w → Calls Try.prog 11 #[.pointer (some ⟨W.heap.size + 1, 0, none⟩), .int .u64 (q.x : Int)] w fun e w' => e = .returned (.bool (s.takeB q.x)) ∧ Hid (Duo W s1 (s.takeS q.x) s.t s.r s.q w') ∧ w.grownBy w' (some (W.heap.size + 1))) := Lib.hid (fun s1 w h => (pc_Take _ q.x s w h.m HS.out.ok hq.b4).mono fun e w' k => ⟨k.e, Lib.hid (h.mm k), k.gr⟩)
        have HNe : Hid (W.heap.size + 2 < wr.heap.size) := Lib.hid (by obtain ⟨_, _, hla⟩ := T0.out.la; exact hla.lt)
        clear hbig hq
        rcases (show q.k % 2 = 1 ∨ q.k % 2 = 0 by omega) with hkk | hkk
        · have hm : (q.k : Int) % 2 = 1 := by omega
          have hm' : Int.tmod (q.k : Int) 2 = 1 := by rw [Int.tmod_eq_emod_of_nonneg (by omega)]; omega
          have HS2 := Lib.hid (PS.take_small HS.out q.x)
          have HE := Lib.hid (PS.take_rqt s q.x)
          clear hkk HP HM
          go_wp2_with fail
          refine (HT.out _ _ T1.out).mono ?_
          rintro e w2 ⟨rfl, T2, g⟩
          have A2 := A1.out.grown g (by simp; have := HNe.out; omega)
          have x4 := A2.cell (i := 4) (v := .int .u64 (q.x : Int)) rfl
          clear g
          go_wp2_with fail
          refine (HU.out _ _ T2.out).mono ?_
          rintro e w3 ⟨rfl, T3, g⟩
          clear g
          go_wp2_with fail
          go_roundw
          case rel => exact ⟨k + 1, s.takeS q.x, by go_num, by omega, HS2.out, by rw [HE.out.1, HE.out.2.1, HE.out.2.2]; exact T3.out⟩
          case measure => simp [intOf]; omega
        · have hm : (q.k : Int) % 2 = 0 := by omega
          have hm' : Int.tmod (q.k : Int) 2 = 0 := by rw [Int.tmod_eq_emod_of_nonneg (by omega)]; omega
          clear hkk HT HU
          by_cases hct : q.n < s.t
          · have HEq := Lib.hid (PS.tick_no (r := q.r) (q := q.q) hct)
            have HE2 : Hid (s.tickE q.n = 2) := Lib.hid (by unfold PS.tickE; rw [if_pos hct])
            rw [HE2.out, HEq.out] at HP HM
            clear hct
            go_wp2_with fail
            refine (HP.out _ _ T1.out).mono ?_
            rintro e w2 ⟨rfl, T2, g⟩
            have A2 := A1.out.grown g (by simp; have := HNe.out; omega)
            have x1 := A2.cell (i := 1) (v := .int .u64 (q.n : Int)) rfl
            have x2 := A2.cell (i := 2) (v := .int .u64 (q.r : Int)) rfl
            have x3 := A2.cell (i := 3) (v := .int .u64 (q.q : Int)) rfl
            clear g
            go_wp2_with fail
            refine (HM.out _ _ T2.out).mono ?_
            rintro e w3 ⟨rfl, T3, g⟩
            clear g
            go_wp2_with fail
            go_roundw
            case rel => exact ⟨k + 1, s, by go_num, by omega, HS.out, T3.out⟩
            case measure => simp [intOf]; omega
          · have HE2 : Hid (s.tickE q.n = 0) := Lib.hid (by unfold PS.tickE; rw [if_neg hct])
            have HS2 := Lib.hid (PS.tick_small HS.out HN.out HR.out HQ.out)
            have HE : Hid ((s.tickS q.n q.r q.q).t = q.n ∧ (s.tickS q.n q.r q.q).q = q.q ∧ (s.tickS q.n q.r q.q).r = q.r) := Lib.hid (by unfold PS.tickS; rw [if_neg hct]; exact ⟨rfl, rfl, rfl⟩)
            rw [HE2.out] at HP HM
            clear hct
            generalize s.tickS q.n q.r q.q = s' at *
            go_wp2_with fail
            refine (HP.out _ _ T1.out).mono ?_
            rintro e w2 ⟨rfl, T2, g⟩
            have A2 := A1.out.grown g (by simp; have := HNe.out; omega)
            have x1 := A2.cell (i := 1) (v := .int .u64 (q.n : Int)) rfl
            have x2 := A2.cell (i := 2) (v := .int .u64 (q.r : Int)) rfl
            have x3 := A2.cell (i := 3) (v := .int .u64 (q.q : Int)) rfl
            clear g
            go_wp2_with fail
            refine (HM.out _ _ T2.out).mono ?_
            rintro e w3 ⟨rfl, T3, g⟩
            have A3 := A2.grown g (by simp; have := HNe.out; omega)
            have y0 := A3.cell (i := 0) (v := .int .u8 (q.k : Int)) rfl
            have y1 := A3.cell (i := 1) (v := .int .u64 (q.n : Int)) rfl
            have y2 := A3.cell (i := 2) (v := .int .u64 (q.r : Int)) rfl
            have y3 := A3.cell (i := 3) (v := .int .u64 (q.q : Int)) rfl
            have y4 := A3.cell (i := 4) (v := .int .u64 (q.x : Int)) rfl
            obtain ⟨kx, xx, hla⟩ := T3.out.la
            have z0 := hla.cell (i := 0) (v := .int .u8 (kx : Int)) rfl
            have z1 := hla.cell (i := 1) (v := .int .u64 (s.t : Int)) rfl
            have z2 := hla.cell (i := 2) (v := .int .u64 (s.r : Int)) rfl
            have z3 := hla.cell (i := 3) (v := .int .u64 (s.q : Int)) rfl
            have z4 := hla.cell (i := 4) (v := .int .u64 (xx : Int)) rfl
            have f0 := hla.free 0
            have f1 := hla.free 1
            have f2 := hla.free 2
            have f3 := hla.free 3
            have f4 := hla.free 4
            have T4 := Lib.hid (T3.out.last hla q.k q.n q.r q.q q.x)
            clear g A2 A3 hla x1 x2 x3 T0 T1 T2 A1 c0 c1 c2 c3 c4
            go_wp2_with fail
            go_roundw
            case rel => exact ⟨k + 1, s', by go_num, by omega, HS2.out, by rw [HE.out.1, HE.out.2.1, HE.out.2.2]; exact T4.out⟩
            case measure => simp [intOf]; omega
    · have hlt' : decide (k < l.length) = false := decide_eq_false hlt
      have hlt2 : decide ((k : Int) < (l.length : Int)) = false := decide_eq_false (by omega)
      obtain ⟨kx, xx, hla⟩ := T0.out.la
      have z1 := hla.cell (i := 1) (v := .int .u64 (s.t : Int)) rfl
      have z2 := hla.cell (i := 2) (v := .int .u64 (s.r : Int)) rfl
      have z3 := hla.cell (i := 3) (v := .int .u64 (s.q : Int)) rfl
      clear hlt hla HL
      have HE := Lib.hid (PS.twice HS.out hx hy)
      have hso := Lib.hid HS.out.ok
      have hs3 := HS.out.2.2.1
      have HO := Lib.hid (PS.tick_ok HS.out.ok (show s.t + x ≤ 18446744073709551615 by omega) HS.out.ok.1 HS.out.ok.2.1)
      have hi1 : (s.t : Int) + (x : Int) = ((s.t + x : Nat) : Int) := by omega
      have hi2 : IntKind.u64.wrap ((s.t + x : Nat) : Int) = ((s.t + x : Nat) : Int) := by rw [IntKind.wrap_u64]; omega
      have hi3 : ((s.t + x : Nat) : Int) + (y : Int) = ((s.t + x + y : Nat) : Int) := by omega
      have hi4 : IntKind.u64.wrap ((s.t + x + y : Nat) : Int) = ((s.t + x + y : Nat) : Int) := by rw [IntKind.wrap_u64]; omega
      have hi5 : IntKind.u64.wrap (x : Int) = (x : Int) := by rw [IntKind.wrap_u64]; omega
      have hi6 : IntKind.u64.wrap (y : Int) = (y : Int) := by rw [IntKind.wrap_u64]; omega
      have hm1 : s.t + x ≤ 18446744073709551615 := by omega
      have hm2 : s.t + x + y ≤ 18446744073709551615 := by omega
      generalize s.t + x + y = tab at *
      generalize s.t + x = ta at *
      have HP1 : Hid (∀ w, Duo W s s s.t s.r s.q w → Calls Try.prog 9 #[.pointer (some ⟨W.heap.size, 0, none⟩), .int .u64 (tab : Int), .int .u64 (s.r : Int), .int .u64 (s.q : Int)] w fun e w' => e = .returned (.int .i64 (s.tickE tab)) ∧ Hid (Duo W (s.tickS tab s.r s.q) s s.t s.r s.q w')) := Lib.hid (fun w h => (pc_Tick _ tab s.r s.q s w h.p hso.out hm2 hso.out.1 hso.out.2.1).mono fun e w' k => ⟨k.e, Lib.hid (h.pp k)⟩)
      have HQ1 : Hid (∀ s1 w, Duo W s1 s s.t s.r s.q w → Calls Try.prog 9 #[.pointer (some ⟨W.heap.size + 1, 0, none⟩), .int .u64 (ta : Int), .int .u64 (s.r : Int), .int .u64 (s.q : Int)] w fun e w' => e = .returned (.int .i64 (s.tickE ta)) ∧ Hid (Duo W s1 (s.tickS ta s.r s.q) s.t s.r s.q w')) := Lib.hid (fun s1 w h => (pc_Tick _ ta s.r s.q s w h.m hso.out hm1 hso.out.1 hso.out.2.1).mono fun e w' k => ⟨k.e, Lib.hid (h.mm k)⟩)
      have HQ2 : Hid (∀ s1 w, Duo W s1 (s.tickS ta s.r s.q) s.t s.r s.q w → Calls Try.prog 9 #[.pointer (some ⟨W.heap.size + 1, 0, none⟩), .int .u64 (tab : Int), .int .u64 (s.r : Int), .int .u64 (s.q : Int)] w fun e w' => e = .returned (.int .i64 ((s.tickS ta s.r s.q).tickE tab)) ∧ Hid (Duo W s1 ((s.tickS ta s.r s.q).tickS tab s.r s.q) s.t s.r s.q w')) := Lib.hid (fun s1 w h => (pc_Tick _ tab s.r s.q (s.tickS ta s.r s.q) w h.m HO.out hm2 hso.out.1 hso.out.2.1).mono fun e w' k => ⟨k.e, Lib.hid (h.mm k)⟩)
      generalize s.tickE tab = ea at *
      generalize s.tickE ta = eb at *
      generalize (s.tickS ta s.r s.q).tickE tab = ec at *
      generalize (s.tickS ta s.r s.q).tickS tab s.r s.q = se at *
      generalize s.tickS ta s.r s.q = sd at *
      generalize s.tickS tab s.r s.q = sc at *
      clear hm1 hm2 HO hs3
      go_wp2_with fail
      refine (HP1.out _ T0.out).mono ?_
      rintro e w2 ⟨rfl, T2⟩
      clear z1 z2 z3
      obtain ⟨kx, xx, hla⟩ := T2.out.la
      have z1 := hla.cell (i := 1) (v := .int .u64 (s.t : Int)) rfl
      have z2 := hla.cell (i := 2) (v := .int .u64 (s.r : Int)) rfl
      have z3 := hla.cell (i := 3) (v := .int .u64 (s.q : Int)) rfl
      clear hla
      go_wp2_with fail
      refine (HQ1.out _ _ T2.out).mono ?_
      rintro e w3 ⟨rfl, T3⟩
      clear z1 z2 z3
      obtain ⟨kx, xx, hla⟩ := T3.out.la
      have z1 := hla.cell (i := 1) (v := .int .u64 (s.t : Int)) rfl
      have z2 := hla.cell (i := 2) (v := .int .u64 (s.r : Int)) rfl
      have z3 := hla.cell (i := 3) (v := .int .u64 (s.q : Int)) rfl
      clear hla
      go_wp2_with fail
      refine (HQ2.out _ _ T3.out).mono ?_
      rintro e w4 ⟨rfl, T4⟩
      clear z1 z2 z3
      go_wp2_with fail
      refine (HA.out _).mono ?_
      rintro e w5 ⟨rfl, hb⟩
      have T5 := Lib.hid (T4.out.to hb)
      clear hb
      go_wp2_with fail
      refine (pc_Credit _ sc _ T5.out.p).mono ?_
      rintro e w6 ⟨rfl, rfl⟩
      go_wp2_with fail
      refine (pc_Credit _ se _ T5.out.m).mono ?_
      rintro e w6 ⟨rfl, rfl⟩
      rw [← HE.out]
      go_wp2_with fail
      go_ret
      exact ⟨rfl, T5.out.bel⟩

theorem PacerTwice_walk (v : Option Addr) (n c x y : Nat) (l : List Act16) (b off : Nat) (W : World) (hx : x ≤ 4294967295) (hy : y ≤ 4294967295) (h : l.length = n ∧ InAct16 W v l b off) :
    Calls Try.prog 6 #[.slice v n c, .int .u32 (x : Int), .int .u32 (y : Int)] W fun e w' => e = .returned (.bool true) ∧ Below W.heap.size W w' := by
  obtain ⟨rfl, h⟩ := h
  by_cases hl : 200 < l.length
  · exact tw_long v c b off x y l W h hl
  · by_cases h1 : 1048576 < x
    · exact tw_bigx v c b off x y l W h (by omega) h1
    · by_cases h2 : 1048576 < y
      · exact tw_bigy v c b off x y l W h (by omega) (by omega) h2
      · exact tw_short v c b off x y l W h (by omega) (by omega) (by omega)
end Go.Proofs.Ytafmfkgaijnfbaa
