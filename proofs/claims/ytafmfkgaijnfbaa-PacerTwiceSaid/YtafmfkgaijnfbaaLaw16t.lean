/- PacerThen over this translation: at the time that is told it may be taken. -/
import Derived.Test.YtafmfkgaijnfbaaLaw16n
import Derived.StillTailTactics
set_option linter.unusedVariables false
namespace Go.Proofs.Ytafmfkgaijnfbaa
open Go.RowKit

/-- Two pacers of the call's own, and the last act. -/
structure Duo (W : World) (s1 s2 : PS) (t r q : Nat) (w : World) : Prop where
  p : Blk w W.heap.size 47 s1.cells
  m : Blk w (W.heap.size + 1) 47 s2.cells
  la : ∃ kx x : Nat, Blk w (W.heap.size + 2) 31 #[.int .u8 (kx : Int), .int .u64 (t : Int), .int .u64 (r : Int), .int .u64 (q : Int), .int .u64 (x : Int)]
  bel : Below W.heap.size W w
theorem Duo.to {W w w' : World} {s1 s2 : PS} {t r q : Nat} (h : Duo W s1 s2 t r q w) (k : Below w.heap.size w w') : Duo W s1 s2 t r q w' := ⟨h.p.keep k, h.m.keep k, by obtain ⟨a, b, c⟩ := h.la; exact ⟨a, b, c.keep k⟩, bel_to h.bel k h.bel.size⟩
theorem Duo.pp {W w w' : World} {s1 s2 s : PS} {t r q : Nat} {v : Value} {e : Ending} (h : Duo W s1 s2 t r q w) (k : PPost w W.heap.size v s e w') : Duo W s s2 t r q w' := ⟨k.blk, h.m.grown k.gr (by simp), by obtain ⟨a, b, c⟩ := h.la; exact ⟨a, b, c.grown k.gr (by simp)⟩, bel_gr h.bel k.gr h.bel.size (Nat.le_refl _)⟩
theorem Duo.mm {W w w' : World} {s1 s2 s : PS} {t r q : Nat} {v : Value} {e : Ending} (h : Duo W s1 s2 t r q w) (k : PPost w (W.heap.size + 1) v s e w') : Duo W s1 s t r q w' := ⟨h.p.grown k.gr (by simp), k.blk, by obtain ⟨a, b, c⟩ := h.la; exact ⟨a, b, c.grown k.gr (by simp)⟩, bel_gr h.bel k.gr h.bel.size (Nat.le_succ _)⟩
/-- What holds at each round's head. -/
def Du16 (W : World) (n k : Nat) (s : PS) (w : World) : Prop := k ≤ n ∧ s.small ∧ Duo W s s s.t s.r s.q w
theorem du_start (W : World) : Duo W PS.zero PS.zero 0 0 0 (((W.alloc (.cells PS.zero.cells 47)).alloc (.cells PS.zero.cells 47)).alloc (.cells #[.int .u8 0, .int .u64 0, .int .u64 0, .int .u64 0, .int .u64 0] 31)) :=
  ⟨((Blk.new _ _ _).alloc _).alloc _, (Blk.new1 _ _ _ _).alloc _, ⟨0, 0, by have := Blk.new ((W.alloc (.cells PS.zero.cells 47)).alloc (.cells PS.zero.cells 47)) 31 #[.int .u8 0, .int .u64 0, .int .u64 0, .int .u64 0, .int .u64 0]; simpa using this⟩, (((Below.refl _ _).alloc (Nat.le_refl _) _).alloc (by simp) _).alloc (by simp; omega) _⟩

theorem Duo.last {W w : World} {s1 s2 : PS} {t r q kx xx : Nat} (h : Duo W s1 s2 t r q w) (hb : Blk w (W.heap.size + 2) 31 #[.int .u8 (kx : Int), .int .u64 (t : Int), .int .u64 (r : Int), .int .u64 (q : Int), .int .u64 (xx : Int)]) (k' t' r' q' x' : Nat) :
    Duo W s1 s2 t' r' q' (((((w.setCell ⟨W.heap.size + 2, 0, none⟩ (.int .u8 (k' : Int))).setCell ⟨W.heap.size + 2, 1, none⟩ (.int .u64 (t' : Int))).setCell ⟨W.heap.size + 2, 2, none⟩ (.int .u64 (r' : Int))).setCell ⟨W.heap.size + 2, 3, none⟩ (.int .u64 (q' : Int))).setCell ⟨W.heap.size + 2, 4, none⟩ (.int .u64 (x' : Int))) :=
  ⟨((((h.p.set_other 0 _ (by omega)).set_other 1 _ (by omega)).set_other 2 _ (by omega)).set_other 3 _ (by omega)).set_other 4 _ (by omega),
   ((((h.m.set_other 0 _ (by omega)).set_other 1 _ (by omega)).set_other 2 _ (by omega)).set_other 3 _ (by omega)).set_other 4 _ (by omega),
   ⟨k', x', by simpa using ((((hb.set 0 (.int .u8 (k' : Int))).set 1 (.int .u64 (t' : Int))).set 2 (.int .u64 (r' : Int))).set 3 (.int .u64 (q' : Int))).set 4 (.int .u64 (x' : Int))⟩,
   ((((h.bel.setCell (p := ⟨W.heap.size + 2, 0, none⟩) (by simp) _).setCell (p := ⟨W.heap.size + 2, 1, none⟩) (by simp) _).setCell (p := ⟨W.heap.size + 2, 2, none⟩) (by simp) _).setCell (p := ⟨W.heap.size + 2, 3, none⟩) (by simp) _).setCell (p := ⟨W.heap.size + 2, 4, none⟩) (by simp) _⟩

theorem th_long (v : Option Addr) (c b off x : Nat) (l : List Act16) (W : World) (h : InAct16 W v l b off) (hf : 200 < l.length) :
    Calls Try.prog 5 #[.slice v l.length c, .int .u64 (x : Int)] W fun e w' => e = .returned (.bool true) ∧ Below W.heap.size W w' := by
  have HA := Lib.hid (alive16 W)
  have hm := h.1
  have d0 : decide ((200 : Int) < (l.length : Int)) = true := decide_eq_true (by omega)
  have d0' : decide (200 < l.length) = true := decide_eq_true (by omega)
  clear h hf
  go_enter Try.func5, Try.ntmps5
  go_wp2_with (go_at_call 7; refine (HA.out).mono ?_; rintro e w' ⟨rfl, hb⟩)
  go_ret
  exact ⟨rfl, hb⟩

set_option maxRecDepth 100000 in
set_option maxHeartbeats 8000000 in
theorem th_short (v : Option Addr) (c b off x : Nat) (l : List Act16) (W : World) (h : InAct16 W v l b off) (hf : l.length ≤ 200) (hx : x ≤ 18446744073709551615) :
    Calls Try.prog 5 #[.slice v l.length c, .int .u64 (x : Int)] W fun e w' => e = .returned (.bool true) ∧ Below W.heap.size W w' := by
  have HL := Lib.hid h
  have HA := Lib.hid alive16
  have hc : decide (200 < l.length) = false := decide_eq_false (by omega)
  have hc' : decide ((200 : Int) < (l.length : Int)) = false := decide_eq_false (by omega)
  have D0 := Lib.hid (du_start W)
  clear h
  go_enter Try.func5, Try.ntmps5
  go_wp2_with fail
  refine (pc_New _).mono ?_
  rintro e w0 ⟨rfl, rfl⟩
  go_wp2_with fail
  refine (pc_New _).mono ?_
  rintro e w0 ⟨rfl, rfl⟩
  go_wp2_with fail
  go_loopw [8] (fun i wr => ∃ (k : Nat) (s : PS), i = .int .i64 (k : Int) ∧ Du16 W l.length k s wr) (fun i _ => l.length - (intOf i).toNat)
  case atStart =>
    exact ⟨0, PS.zero, rfl, Nat.zero_le _, PS.small_zero, D0.out⟩
  case round =>
    clear D0
    obtain ⟨k, s, rfl, hk, hs, ht⟩ := hrel
    have HS := Lib.hid hs
    have T0 := Lib.hid ht
    clear hs ht
    by_cases hlt : k < l.length
    · have hq := HL.out.2.2 k hlt
      have hB := (HL.out.2.1 (by omega)).2
      obtain rfl := (HL.out.2.1 (by omega)).1
      generalize l.getD k default = q at *
      have c0 := act_at0 hB T0.out.bel hq.k0
      have c1 := act_at hB T0.out.bel hq.k1
      have c2 := act_at hB T0.out.bel hq.k2
      have c3 := act_at hB T0.out.bel hq.k3
      have c4 := act_at hB T0.out.bel hq.k4
      have hk0 := hq.b0
      have hkl : (k : Int) < (l.length : Int) := by omega
      have T1 := Lib.hid (T0.out.to (al_be _ (.cells #[.int .u8 (q.k : Int), .int .u64 (q.n : Int), .int .u64 (q.r : Int), .int .u64 (q.q : Int), .int .u64 (q.x : Int)] 31)))
      have A1 := Lib.hid (Blk.new wr 31 #[.int .u8 (q.k : Int), .int .u64 (q.n : Int), .int .u64 (q.r : Int), .int .u64 (q.q : Int), .int .u64 (q.x : Int)])
      by_cases hbig : 1048576 < q.n ∨ 1048576 < q.r ∨ 1048576 < q.q ∨ 1048576 < q.x
      · rcases (show 1048576 < q.n ∨ (q.n ≤ 1048576 ∧ 1048576 < q.r) ∨ (q.n ≤ 1048576 ∧ q.r ≤ 1048576 ∧ 1048576 < q.q) ∨ (q.n ≤ 1048576 ∧ q.r ≤ 1048576 ∧ q.q ≤ 1048576 ∧ 1048576 < q.x) by omega) with hb1 | hb1 | hb1 | hb1
        · have d0 : decide ((1048576 : Int) < (q.n : Int)) = true := decide_eq_true (by omega)
          have e0 : decide (1048576 < q.n) = true := decide_eq_true (by omega)
          clear hb1 hbig hq hk0
          go_wp2_with (go_at_call 7; refine (HA.out _).mono ?_; rintro e w' ⟨rfl, hb⟩)
          go_ret
          exact ⟨rfl, bel_to T1.out.bel hb T1.out.bel.size⟩
        · have d0 : decide ((1048576 : Int) < (q.n : Int)) = false := decide_eq_false (by omega)
          have e0 : decide (1048576 < q.n) = false := decide_eq_false (by omega)
          have d1 : decide ((1048576 : Int) < (q.r : Int)) = true := decide_eq_true (by omega)
          have e1 : decide (1048576 < q.r) = true := decide_eq_true (by omega)
          clear hb1 hbig hq hk0
          go_wp2_with (go_at_call 7; refine (HA.out _).mono ?_; rintro e w' ⟨rfl, hb⟩)
          go_ret
          exact ⟨rfl, bel_to T1.out.bel hb T1.out.bel.size⟩
        · have d0 : decide ((1048576 : Int) < (q.n : Int)) = false := decide_eq_false (by omega)
          have e0 : decide (1048576 < q.n) = false := decide_eq_false (by omega)
          have d1 : decide ((1048576 : Int) < (q.r : Int)) = false := decide_eq_false (by omega)
          have e1 : decide (1048576 < q.r) = false := decide_eq_false (by omega)
          have d2 : decide ((1048576 : Int) < (q.q : Int)) = true := decide_eq_true (by omega)
          have e2 : decide (1048576 < q.q) = true := decide_eq_true (by omega)
          clear hb1 hbig hq hk0
          go_wp2_with (go_at_call 7; refine (HA.out _).mono ?_; rintro e w' ⟨rfl, hb⟩)
          go_ret
          exact ⟨rfl, bel_to T1.out.bel hb T1.out.bel.size⟩
        · have d0 : decide ((1048576 : Int) < (q.n : Int)) = false := decide_eq_false (by omega)
          have e0 : decide (1048576 < q.n) = false := decide_eq_false (by omega)
          have d1 : decide ((1048576 : Int) < (q.r : Int)) = false := decide_eq_false (by omega)
          have e1 : decide (1048576 < q.r) = false := decide_eq_false (by omega)
          have d2 : decide ((1048576 : Int) < (q.q : Int)) = false := decide_eq_false (by omega)
          have e2 : decide (1048576 < q.q) = false := decide_eq_false (by omega)
          have d3 : decide ((1048576 : Int) < (q.x : Int)) = true := decide_eq_true (by omega)
          have e3 : decide (1048576 < q.x) = true := decide_eq_true (by omega)
          clear hb1 hbig hq hk0
          go_wp2_with (go_at_call 7; refine (HA.out _).mono ?_; rintro e w' ⟨rfl, hb⟩)
          go_ret
          exact ⟨rfl, bel_to T1.out.bel hb T1.out.bel.size⟩
      · have hn := (show q.n ≤ 1048576 by omega)
        have hrr := (show q.r ≤ 1048576 by omega)
        have hqq := (show q.q ≤ 1048576 by omega)
        have hxx := (show q.x ≤ 1048576 by omega)
        have HN := Lib.hid hn
        have HR := Lib.hid hrr
        have HQ := Lib.hid hqq
        have d0 : decide ((1048576 : Int) < (q.n : Int)) = false := decide_eq_false (by omega)
        have e0 : decide (1048576 < q.n) = false := decide_eq_false (by omega)
        have d1 : decide ((1048576 : Int) < (q.r : Int)) = false := decide_eq_false (by omega)
        have e1 : decide (1048576 < q.r) = false := decide_eq_false (by omega)
        have d2 : decide ((1048576 : Int) < (q.q : Int)) = false := decide_eq_false (by omega)
        have e2 : decide (1048576 < q.q) = false := decide_eq_false (by omega)
        have d3 : decide ((1048576 : Int) < (q.x : Int)) = false := decide_eq_false (by omega)
        have e3 : decide (1048576 < q.x) = false := decide_eq_false (by omega)
        have HP : Hid (∀ s2 w, Duo W s s2 s.t s.r s.q w → Calls Try.prog 9 #[.pointer (some ⟨W.heap.size, 0, none⟩), .int .u64 (q.n : Int), .int .u64 (q.r : Int), .int .u64 (q.q : Int)] w fun e w' => e = .returned (.int .i64 (s.tickE q.n)) ∧ Hid (Duo W (s.tickS q.n q.r q.q) s2 s.t s.r s.q w') ∧ w.grownBy w' (some (W.heap.size))) := Lib.hid (fun s2 w h => (pc_Tick _ q.n q.r q.q s w h.p HS.out.ok hq.b1 hq.b2 hq.b3).mono fun e w' k => ⟨k.e, Lib.hid (h.pp k), k.gr⟩)
        have HM : Hid (∀ s1 w, Duo W s1 s s.t s.r s.q w → Calls Try.prog 9 #[.pointer (some ⟨W.heap.size + 1, 0, none⟩), .int .u64 (q.n : Int), .int .u64 (q.r : Int), .int .u64 (q.q : Int)] w fun e w' => e = .returned (.int .i64 (s.tickE q.n)) ∧ Hid (Duo W s1 (s.tickS q.n q.r q.q) s.t s.r s.q w') ∧ w.grownBy w' (some (W.heap.size + 1))) := Lib.hid (fun s1 w h => (pc_Tick _ q.n q.r q.q s w h.m HS.out.ok hq.b1 hq.b2 hq.b3).mono fun e w' k => ⟨k.e, Lib.hid (h.mm k), k.gr⟩)
        have HT : Hid (∀ s2 w, Duo W s s2 s.t s.r s.q w → Calls Try.prog 11 #[.pointer (some ⟨W.heap.size, 0, none⟩), .int .u64 (q.x : Int)] w fun e w' => e = .returned (.bool (s.takeB q.x)) ∧ Hid (Duo W (s.takeS q.x) s2 s.t s.r s.q w') ∧ w.grownBy w' (some (W.heap.size))) := Lib.hid (fun s2 w h => (pc_Take _ q.x s w h.p HS.out.ok hq.b4).mono fun e w' k => ⟨k.e, Lib.hid (h.pp k), k.gr⟩)
        have HU : Hid (∀ s1 w, Duo W s1 s s.t s.r s.q w → Calls Try.prog 11 #[.pointer (some ⟨W.heap.size + 1, 0, none⟩), .int .u64 (q.x : Int)] w fun e w' => e = .returned (.bool (s.takeB q.x)) ∧ Hid (Duo W s1 (s.takeS q.x) s.t s.r s.q w') ∧ w.grownBy w' (some (W.heap.size + 1))) := Lib.hid (fun s1 w h => (pc_Take _ q.x s w h.m HS.out.ok hq.b4).mono fun e w' k => ⟨k.e, Lib.hid (h.mm k), k.gr⟩)
        have HNe : Hid (W.heap.size + 2 < wr.heap.size) := Lib.hid (by obtain ⟨_, _, hla⟩ := T0.out.la; exact hla.lt)
        clear hbig hq
        rcases (show q.k % 2 = 1 ∨ q.k % 2 = 0 by omega) with hkk | hkk
        · have hm : (q.k : Int) % 2 = 1 := by omega
          have hm' : Int.tmod (q.k : Int) 2 = 1 := by rw [Int.tmod_eq_emod_of_nonneg (by omega)]; omega
          have HS2 := Lib.hid (PS.take_small HS.out q.x)
          have HE := Lib.hid (PS.take_rqt s q.x)
          clear hkk HP HM
          go_wp2_with fail
          refine (HT.out _ _ T1.out).mono ?_
          rintro e w2 ⟨rfl, T2, g⟩
          have A2 := A1.out.grown g (by simp; have := HNe.out; omega)
          have x4 := A2.cell (i := 4) (v := .int .u64 (q.x : Int)) rfl
          clear g
          go_wp2_with fail
          refine (HU.out _ _ T2.out).mono ?_
          rintro e w3 ⟨rfl, T3, g⟩
          clear g
          go_wp2_with fail
          go_roundw
          case rel => exact ⟨k + 1, s.takeS q.x, by go_num, by omega, HS2.out, by rw [HE.out.1, HE.out.2.1, HE.out.2.2]; exact T3.out⟩
          case measure => simp [intOf]; omega
        · have hm : (q.k : Int) % 2 = 0 := by omega
          have hm' : Int.tmod (q.k : Int) 2 = 0 := by rw [Int.tmod_eq_emod_of_nonneg (by omega)]; omega
          clear hkk HT HU
          by_cases hct : q.n < s.t
          · have HEq := Lib.hid (PS.tick_no (r := q.r) (q := q.q) hct)
            have HE2 : Hid (s.tickE q.n = 2) := Lib.hid (by unfold PS.tickE; rw [if_pos hct])
            rw [HE2.out, HEq.out] at HP HM
            clear hct
            go_wp2_with fail
            refine (HP.out _ _ T1.out).mono ?_
            rintro e w2 ⟨rfl, T2, g⟩
            have A2 := A1.out.grown g (by simp; have := HNe.out; omega)
            have x1 := A2.cell (i := 1) (v := .int .u64 (q.n : Int)) rfl
            have x2 := A2.cell (i := 2) (v := .int .u64 (q.r : Int)) rfl
            have x3 := A2.cell (i := 3) (v := .int .u64 (q.q : Int)) rfl
            clear g
            go_wp2_with fail
            refine (HM.out _ _ T2.out).mono ?_
            rintro e w3 ⟨rfl, T3, g⟩
            clear g
            go_wp2_with fail
            go_roundw
            case rel => exact ⟨k + 1, s, by go_num, by omega, HS.out, T3.out⟩
            case measure => simp [intOf]; omega
          · have HE2 : Hid (s.tickE q.n = 0) := Lib.hid (by unfold PS.tickE; rw [if_neg hct])
            have HS2 := Lib.hid (PS.tick_small HS.out HN.out HR.out HQ.out)
            have HE : Hid ((s.tickS q.n q.r q.q).t = q.n ∧ (s.tickS q.n q.r q.q).q = q.q ∧ (s.tickS q.n q.r q.q).r = q.r) := Lib.hid (by unfold PS.tickS; rw [if_neg hct]; exact ⟨rfl, rfl, rfl⟩)
            rw [HE2.out] at HP HM
            clear hct
            generalize s.tickS q.n q.r q.q = s' at *
            go_wp2_with fail
            refine (HP.out _ _ T1.out).mono ?_
            rintro e w2 ⟨rfl, T2, g⟩
            have A2 := A1.out.grown g (by simp; have := HNe.out; omega)
            have x1 := A2.cell (i := 1) (v := .int .u64 (q.n : Int)) rfl
            have x2 := A2.cell (i := 2) (v := .int .u64 (q.r : Int)) rfl
            have x3 := A2.cell (i := 3) (v := .int .u64 (q.q : Int)) rfl
            clear g
            go_wp2_with fail
            refine (HM.out _ _ T2.out).mono ?_
            rintro e w3 ⟨rfl, T3, g⟩
            have A3 := A2.grown g (by simp; have := HNe.out; omega)
            have y0 := A3.cell (i := 0) (v := .int .u8 (q.k : Int)) rfl
            have y1 := A3.cell (i := 1) (v := .int .u64 (q.n : Int)) rfl
            have y2 := A3.cell (i := 2) (v := .int .u64 (q.r : Int)) rfl
            have y3 := A3.cell (i := 3) (v := .int .u64 (q.q : Int)) rfl
            have y4 := A3.cell (i := 4) (v := .int .u64 (q.x : Int)) rfl
            obtain ⟨kx, xx, hla⟩ := T3.out.la
            have z0 := hla.cell (i := 0) (v := .int .u8 (kx : Int)) rfl
            have z1 := hla.cell (i := 1) (v := .int .u64 (s.t : Int)) rfl
            have z2 := hla.cell (i := 2) (v := .int .u64 (s.r : Int)) rfl
            have z3 := hla.cell (i := 3) (v := .int .u64 (s.q : Int)) rfl
            have z4 := hla.cell (i := 4) (v := .int .u64 (xx : Int)) rfl
            have f0 := hla.free 0
            have f1 := hla.free 1
            have f2 := hla.free 2
            have f3 := hla.free 3
            have f4 := hla.free 4
            have T4 := Lib.hid (T3.out.last hla q.k q.n q.r q.q q.x)
            clear g A2 A3 hla x1 x2 x3 T0 T1 T2 A1 c0 c1 c2 c3 c4
            go_wp2_with fail
            go_roundw
            case rel => exact ⟨k + 1, s', by go_num, by omega, HS2.out, by rw [HE.out.1, HE.out.2.1, HE.out.2.2]; exact T4.out⟩
            case measure => simp [intOf]; omega
    · have hlt' : decide (k < l.length) = false := decide_eq_false hlt
      have hlt2 : decide ((k : Int) < (l.length : Int)) = false := decide_eq_false (by omega)
      obtain ⟨kx, xx, hla⟩ := T0.out.la
      have z1 := hla.cell (i := 1) (v := .int .u64 (s.t : Int)) rfl
      have z2 := hla.cell (i := 2) (v := .int .u64 (s.r : Int)) rfl
      have z3 := hla.cell (i := 3) (v := .int .u64 (s.q : Int)) rfl
      clear hlt hla HL
      cases hnb : s.nextB x with
      | false =>
        have HX := Lib.hid (fun w h => pc_Next W.heap.size x s w h HS.out.ok hx)
        rw [hnb] at HX
        generalize s.nextT x = T at *
        clear hnb
        go_wp2_with fail
        refine (HX.out _ T0.out.p).mono ?_
        rintro e w1 ⟨rfl, hb⟩
        have T1 := Lib.hid (T0.out.to hb)
        clear hb z1 z2 z3
        obtain ⟨kx, xx, hla⟩ := T1.out.la
        have z1 := hla.cell (i := 1) (v := .int .u64 (s.t : Int)) rfl
        have z2 := hla.cell (i := 2) (v := .int .u64 (s.r : Int)) rfl
        have z3 := hla.cell (i := 3) (v := .int .u64 (s.q : Int)) rfl
        clear hla
        have G := Lib.hid T1.out.bel
        go_wp2_with fail
        refine (pc_Fill_nil _).mono ?_
        rintro e w9 ⟨rfl, rfl⟩
        go_wp2_with fail
        refine (pc_Next_nil 1 _).mono ?_
        rintro e w9 ⟨rfl, rfl⟩
        go_wp2_with fail
        refine (HA.out _).mono ?_
        rintro e w9 ⟨rfl, hb⟩
        have G1 := Lib.hid (bel_to G.out hb G.out.size)
        clear hb
        go_wp2_with fail
        refine (pc_Tick_nil 1 1 1 _).mono ?_
        rintro e w10 ⟨rfl, rfl⟩
        go_wp2_with fail
        refine (pc_Credit_nil _).mono ?_
        rintro e w10 ⟨rfl, rfl⟩
        go_wp2_with fail
        refine (pc_Take_nil 0 _).mono ?_
        rintro e w10 ⟨rfl, hb⟩
        have G2 := Lib.hid (bel_to G1.out hb G1.out.size)
        clear hb
        go_wp2_with fail
        go_ret
        exact ⟨rfl, G2.out⟩
      | true =>
        have HAt := Lib.hid (PS.then_at HS.out hnb)
        have HAh := Lib.hid (PS.then_ahead HS.out hnb)
        have hle := PS.next_le HS.out x
        have HX := Lib.hid (fun w h => pc_Next W.heap.size x s w h HS.out.ok hx)
        rw [hnb] at HX
        have hso := Lib.hid HS.out.ok
        have hto : Hid (∀ n, n ≤ 18446744073709551615 → (s.tickS n s.r s.q).ok) := Lib.hid (fun n hn => PS.tick_ok HS.out.ok hn HS.out.ok.1 HS.out.ok.2.1)
        clear hnb
        generalize s.nextT x = T at *
        have HQt : Hid (∀ s1 w, Duo W s1 s s.t s.r s.q w → Calls Try.prog 9 #[.pointer (some ⟨W.heap.size + 1, 0, none⟩), .int .u64 (T : Int), .int .u64 (s.r : Int), .int .u64 (s.q : Int)] w fun e w' => e = .returned (.int .i64 (s.tickE T)) ∧ Hid (Duo W s1 (s.tickS T s.r s.q) s.t s.r s.q w')) := Lib.hid (fun s1 w h => (pc_Tick _ T s.r s.q s w h.m hso.out (by omega) hso.out.1 hso.out.2.1).mono fun e w' k => ⟨k.e, Lib.hid (h.mm k)⟩)
        have HQk : Hid (∀ s1 w, Duo W s1 (s.tickS T s.r s.q) s.t s.r s.q w → Calls Try.prog 11 #[.pointer (some ⟨W.heap.size + 1, 0, none⟩), .int .u64 (x : Int)] w fun e w' => e = .returned (.bool ((s.tickS T s.r s.q).takeB x)) ∧ Hid (Duo W s1 ((s.tickS T s.r s.q).takeS x) s.t s.r s.q w')) := Lib.hid (fun s1 w h => (pc_Take _ x (s.tickS T s.r s.q) w h.m (hto.out T (by omega)) hx).mono fun e w' k => ⟨k.e, Lib.hid (h.mm k)⟩)
        rw [HAt.out] at HQk
        by_cases hgt : s.t < T
        · have g0 : decide (s.t < T) = true := decide_eq_true hgt
          have g1 : decide ((s.t : Int) < (T : Int)) = true := decide_eq_true (by omega)
          have HA1 := Lib.hid (HAh.out hgt)
          have hT1 : (T : Int) - 1 = ((T - 1 : Nat) : Int) := by omega
          have hT2 : IntKind.u64.wrap ((T - 1 : Nat) : Int) = ((T - 1 : Nat) : Int) := by rw [IntKind.wrap_u64]; omega
          have HPt : Hid (∀ w, Duo W s s s.t s.r s.q w → Calls Try.prog 9 #[.pointer (some ⟨W.heap.size, 0, none⟩), .int .u64 ((T - 1 : Nat) : Int), .int .u64 (s.r : Int), .int .u64 (s.q : Int)] w fun e w' => e = .returned (.int .i64 (s.tickE (T - 1))) ∧ Hid (Duo W (s.tickS (T - 1) s.r s.q) s s.t s.r s.q w')) := Lib.hid (fun w h => (pc_Tick _ (T - 1) s.r s.q s w h.p hso.out (by omega) hso.out.1 hso.out.2.1).mono fun e w' k => ⟨k.e, Lib.hid (h.pp k)⟩)
          have HPk : Hid (∀ w, Duo W (s.tickS (T - 1) s.r s.q) s s.t s.r s.q w → Calls Try.prog 11 #[.pointer (some ⟨W.heap.size, 0, none⟩), .int .u64 (x : Int)] w fun e w' => e = .returned (.bool ((s.tickS (T - 1) s.r s.q).takeB x)) ∧ Hid (Duo W ((s.tickS (T - 1) s.r s.q).takeS x) s s.t s.r s.q w')) := Lib.hid (fun w h => (pc_Take _ x (s.tickS (T - 1) s.r s.q) w h.p (hto.out (T - 1) (by omega)) hx).mono fun e w' k => ⟨k.e, Lib.hid (h.pp k)⟩)
          rw [HA1.out] at HPk
          clear hgt HAh HA1 HAt hto
          generalize (s.tickS (T - 1) s.r s.q).takeS x = sc at *
          generalize s.tickS (T - 1) s.r s.q = sa at *
          generalize s.tickE (T - 1) = ea at *
          generalize (s.tickS T s.r s.q).takeS x = sd at *
          generalize s.tickS T s.r s.q = sb at *
          generalize s.tickE T = eb at *
          generalize T - 1 = T1n at *
          go_wp2_with fail
          refine (HX.out _ T0.out.p).mono ?_
          rintro e w1 ⟨rfl, hb⟩
          have T1 := Lib.hid (T0.out.to hb)
          clear hb z1 z2 z3
          obtain ⟨kx, xx, hla⟩ := T1.out.la
          have z1 := hla.cell (i := 1) (v := .int .u64 (s.t : Int)) rfl
          have z2 := hla.cell (i := 2) (v := .int .u64 (s.r : Int)) rfl
          have z3 := hla.cell (i := 3) (v := .int .u64 (s.q : Int)) rfl
          clear hla
          go_wp2_with fail
          refine (HPt.out _ T1.out).mono ?_
          rintro e w2 ⟨rfl, T2⟩
          clear z1 z2 z3
          obtain ⟨kx, xx, hla⟩ := T2.out.la
          have z1 := hla.cell (i := 1) (v := .int .u64 (s.t : Int)) rfl
          have z2 := hla.cell (i := 2) (v := .int .u64 (s.r : Int)) rfl
          have z3 := hla.cell (i := 3) (v := .int .u64 (s.q : Int)) rfl
          clear hla
          go_wp2_with fail
          refine (HPk.out _ T2.out).mono ?_
          rintro e w3 ⟨rfl, T3⟩
          clear z1 z2 z3
          obtain ⟨kx, xx, hla⟩ := T3.out.la
          have z1 := hla.cell (i := 1) (v := .int .u64 (s.t : Int)) rfl
          have z2 := hla.cell (i := 2) (v := .int .u64 (s.r : Int)) rfl
          have z3 := hla.cell (i := 3) (v := .int .u64 (s.q : Int)) rfl
          clear hla
          go_wp2_with fail
          refine (HQt.out _ _ T3.out).mono ?_
          rintro e w4 ⟨rfl, T4⟩
          clear z1 z2 z3
          go_wp2_with fail
          refine (HQk.out _ _ T4.out).mono ?_
          rintro e w5 ⟨rfl, T5⟩
          have G := Lib.hid T5.out.bel
          go_wp2_with fail
          refine (pc_Fill_nil _).mono ?_
          rintro e w9 ⟨rfl, rfl⟩
          go_wp2_with fail
          refine (pc_Next_nil 1 _).mono ?_
          rintro e w9 ⟨rfl, rfl⟩
          go_wp2_with fail
          refine (HA.out _).mono ?_
          rintro e w9 ⟨rfl, hb⟩
          have G1 := Lib.hid (bel_to G.out hb G.out.size)
          clear hb
          go_wp2_with fail
          refine (pc_Tick_nil 1 1 1 _).mono ?_
          rintro e w10 ⟨rfl, rfl⟩
          go_wp2_with fail
          refine (pc_Credit_nil _).mono ?_
          rintro e w10 ⟨rfl, rfl⟩
          go_wp2_with fail
          refine (pc_Take_nil 0 _).mono ?_
          rintro e w10 ⟨rfl, hb⟩
          have G2 := Lib.hid (bel_to G1.out hb G1.out.size)
          clear hb
          go_wp2_with fail
          go_ret
          exact ⟨rfl, G2.out⟩
        · have g0 : decide (s.t < T) = false := decide_eq_false hgt
          have g1 : decide ((s.t : Int) < (T : Int)) = false := decide_eq_false (by omega)
          clear hgt HAh HAt hto
          generalize (s.tickS T s.r s.q).takeS x = sd at *
          generalize s.tickS T s.r s.q = sb at *
          generalize s.tickE T = eb at *
          go_wp2_with fail
          refine (HX.out _ T0.out.p).mono ?_
          rintro e w1 ⟨rfl, hb⟩
          have T1 := Lib.hid (T0.out.to hb)
          clear hb z1 z2 z3
          obtain ⟨kx, xx, hla⟩ := T1.out.la
          have z1 := hla.cell (i := 1) (v := .int .u64 (s.t : Int)) rfl
          have z2 := hla.cell (i := 2) (v := .int .u64 (s.r : Int)) rfl
          have z3 := hla.cell (i := 3) (v := .int .u64 (s.q : Int)) rfl
          clear hla
          go_wp2_with fail
          refine (HQt.out _ _ T1.out).mono ?_
          rintro e w4 ⟨rfl, T4⟩
          clear z1 z2 z3
          go_wp2_with fail
          refine (HQk.out _ _ T4.out).mono ?_
          rintro e w5 ⟨rfl, T5⟩
          have G := Lib.hid T5.out.bel
          go_wp2_with fail
          refine (pc_Fill_nil _).mono ?_
          rintro e w9 ⟨rfl, rfl⟩
          go_wp2_with fail
          refine (pc_Next_nil 1 _).mono ?_
          rintro e w9 ⟨rfl, rfl⟩
          go_wp2_with fail
          refine (HA.out _).mono ?_
          rintro e w9 ⟨rfl, hb⟩
          have G1 := Lib.hid (bel_to G.out hb G.out.size)
          clear hb
          go_wp2_with fail
          refine (pc_Tick_nil 1 1 1 _).mono ?_
          rintro e w10 ⟨rfl, rfl⟩
          go_wp2_with fail
          refine (pc_Credit_nil _).mono ?_
          rintro e w10 ⟨rfl, rfl⟩
          go_wp2_with fail
          refine (pc_Take_nil 0 _).mono ?_
          rintro e w10 ⟨rfl, hb⟩
          have G2 := Lib.hid (bel_to G1.out hb G1.out.size)
          clear hb
          go_wp2_with fail
          go_ret
          exact ⟨rfl, G2.out⟩

theorem PacerThen_walk (v : Option Addr) (n c x : Nat) (l : List Act16) (b off : Nat) (W : World) (hx : x ≤ 18446744073709551615) (h : l.length = n ∧ InAct16 W v l b off) :
    Calls Try.prog 5 #[.slice v n c, .int .u64 (x : Int)] W fun e w' => e = .returned (.bool true) ∧ Below W.heap.size W w' := by
  obtain ⟨rfl, h⟩ := h
  by_cases hl : 200 < l.length
  · exact th_long v c b off x l W h hl
  · exact th_short v c b off x l W h (by omega) hx
end Go.Proofs.Ytafmfkgaijnfbaa
