/- PacerNoMore over this translation: no more is taken than may be. -/
import Derived.Test.YtafmfkgaijnfbaaLaw16a
import Derived.Test.YtafmfkgaijnfbaaIn16
import Derived.Deep.DeepCutAuto
import Derived.Deep.LoopGhost
set_option linter.unusedVariables false
namespace Go.Proofs.Ytafmfkgaijnfbaa
open Go.RowKit

/-- A pacer of the call's own. -/
structure One (W : World) (s : PS) (w : World) : Prop where
  p : Blk w W.heap.size 47 s.cells
  bel : Below W.heap.size W w
theorem One.to {W w w' : World} {s : PS} (h : One W s w) (k : Below w.heap.size w w') : One W s w' := ⟨h.p.keep k, bel_to h.bel k h.bel.size⟩
theorem One.pp {W w w' : World} {s s' : PS} {r : Value} {e : Ending} (h : One W s w) (k : PPost w W.heap.size r s' e w') : One W s' w' := ⟨k.blk, bel_gr h.bel k.gr h.bel.size (Nat.le_refl _)⟩

theorem act_at {W w : World} {b o j : Nat} {v : Value} (hb : b < W.heap.size) (g : Below W.heap.size W w) (h : W.cell? ⟨b, o + j, none⟩ = some v) : w.cell? ⟨b, o + j, none⟩ = some v := (g.cell (p := ⟨b, _, none⟩) hb).trans h
theorem act_at0 {W w : World} {b o : Nat} {v : Value} (hb : b < W.heap.size) (g : Below W.heap.size W w) (h : W.cell? ⟨b, o, none⟩ = some v) : w.cell? ⟨b, o, none⟩ = some v := (g.cell (p := ⟨b, _, none⟩) hb).trans h

theorem nomore_long (v : Option Addr) (c b off f : Nat) (l : List Act16) (W : World) (h : InAct16 W v l b off) (hf : 200 < l.length) :
    Calls Try.prog 4 #[.slice v l.length c, .int .u16 (f : Int)] W fun e w' => e = .returned (.bool true) ∧ Below W.heap.size W w' := by
  have HA := Lib.hid (alive16 W)
  have hm := h.1
  have d0 : decide ((200 : Int) < (l.length : Int)) = true := decide_eq_true (by omega)
  have d1 : decide (200 < l.length) = true := decide_eq_true hf
  clear h hf
  go_enter Try.func4, Try.ntmps4
  go_wp2_with (go_at_call 7; refine (HA.out).mono ?_; rintro e w' ⟨rfl, hb⟩)
  go_ret
  exact ⟨rfl, hb⟩

/-- The books at each round's head: a is what may be taken, t what was. -/
def Books (F k : Nat) (s : PS) (a t : Nat) : Prop := (k ≤ F → a = 0 ∧ t = 0) ∧ (F < k → t + s.s ≤ a ∧ a ≤ (k + 1) * 1099511627776)
/-- Within a round, behind what is set at the first that counts. -/
def Books1 (c : Bool) (k : Nat) (s : PS) (a t : Nat) : Prop := (c = false → a = 0 ∧ t = 0) ∧ (c = true → t + s.s ≤ a ∧ a ≤ (k + 1) * 1099511627776)
theorem Books.tick {F k : Nat} {s : PS} {a t : Nat} (hc : decide (F ≤ k) = true) (h1 : t + s.s ≤ a) (h2 : a ≤ (k + 2) * 1099511627776) : Books F (k + 1) s a t := by
  have := of_decide_eq_true hc
  exact ⟨fun h' => absurd h' (by omega), fun _ => ⟨h1, h2⟩⟩
theorem Books.next {F k : Nat} {s : PS} {a t : Nat} {c : Bool} (hc : decide (F ≤ k) = c) (h : Books1 c k s a t) : Books F (k + 1) s a t := by
  obtain ⟨h0, h1⟩ := h
  cases c with
  | false =>
    have := of_decide_eq_false hc
    exact ⟨fun _ => h0 rfl, fun h' => absurd h' (by omega)⟩
  | true =>
    obtain ⟨h2, h3⟩ := h1 rfl
    exact Books.tick hc h2 (Nat.le_trans h3 (Nat.mul_le_mul_right _ (Nat.le_succ _)))
theorem Books.before {F k : Nat} {s : PS} {a t : Nat} (h : Books F k s a t) (hk : k < F) : Books1 false k s a t := ⟨fun _ => h.1 (by omega), fun h => by cases h⟩
set_option maxRecDepth 100000 in
theorem Books.at_ {F k : Nat} {s : PS} {a t : Nat} (h : Books F k s a t) (hs : s.small) (hk : k = F) : Books1 true k s (s.q * 1000000) t := ⟨fun h => (by cases h), fun _ => by
  have := h.1 (by omega)
  obtain ⟨h1, h2, h3, h4⟩ := hs
  omega⟩
theorem Books.behind {F k : Nat} {s : PS} {a t : Nat} (h : Books F k s a t) (hk : F < k) : Books1 true k s a t := ⟨fun h => (by cases h), fun _ => h.2 hk⟩
set_option maxRecDepth 100000 in
theorem Books1.take {k : Nat} {s : PS} {a t x : Nat} (h : Books1 true k s a t) (hx : x ≤ 1048576) (c : s.takeB x = true) : Books1 true k (s.takeS x) a (t + x * 1000000) ∧ t + x * 1000000 ≤ a := by
  have e := PS.take_sum hx c
  have h2 := h.2 rfl
  exact ⟨⟨fun h => (by cases h), fun _ => by omega⟩, by omega⟩
theorem Books1.no {k : Nat} {s s' : PS} {a t : Nat} (h : Books1 false k s a t) : Books1 false k s' a t := ⟨h.1, fun h => by cases h⟩
set_option maxRecDepth 100000 in
theorem Books1.tick {k : Nat} {s : PS} {a t n r q : Nat} (h : Books1 true k s a t) (hs : s.small) (hn : n ≤ 1048576) (hr : r ≤ 1048576) (hq : q ≤ 1048576) (hge : s.t ≤ n) : (t + (s.tickS n r q).s ≤ a + r * (n - s.t)) ∧ a + r * (n - s.t) ≤ (k + 2) * 1099511627776 := by
  have h2 := h.2 rfl
  have e := PS.tick_more hs hn hr hq hge
  have m := PS.mul_two hr (show n - s.t ≤ 4194304 by omega)
  have m2 : r * (n - s.t) ≤ 1048576 * 1048576 := Nat.mul_le_mul hr (by omega)
  generalize r * (n - s.t) = z at *
  omega

/-- What holds at each round's head. -/
def No16 (W : World) (n F k : Nat) (s : PS) (a t : Nat) (w : World) : Prop := k ≤ n ∧ s.small ∧ Books F k s a t ∧ One W s w

set_option maxRecDepth 100000 in
set_option maxHeartbeats 8000000 in
theorem nomore_short (v : Option Addr) (c b off f : Nat) (l : List Act16) (W : World) (h : InAct16 W v l b off) (hf : l.length ≤ 200) (hfr : f ≤ 65535) :
    Calls Try.prog 4 #[.slice v l.length c, .int .u16 (f : Int)] W fun e w' => e = .returned (.bool true) ∧ Below W.heap.size W w' := by
  have HL := Lib.hid h
  have HA := Lib.hid alive16
  have hc : decide (200 < l.length) = false := decide_eq_false (by omega)
  have hr : (f : Int) % 200 = ((f % 200 : Nat) : Int) := by omega
  have hr' : Int.tmod (f : Int) 200 = ((f % 200 : Nat) : Int) := by rw [Int.tmod_eq_emod_of_nonneg (by omega)]; omega
  clear h
  go_enter Try.func4, Try.ntmps4
  go_wp2_with (go_at_call 8; refine (pc_New _).mono ?_; rintro e w0 ⟨rfl, rfl⟩)
  go_loopw [10, 6, 7, 8, 9] (fun i nw qu al ta wr => ∃ (k a t : Nat) (s : PS), i = .int .i64 (k : Int) ∧ nw = .int .u64 (s.t : Int) ∧ qu = .int .u64 (s.q : Int) ∧ al = .int .u64 (a : Int) ∧ ta = .int .u64 (t : Int) ∧ No16 W l.length (f % 200) k s a t wr) (fun i _ _ _ _ _ => l.length - (intOf i).toNat)
  case atStart =>
    exact ⟨0, 0, 0, PS.zero, rfl, rfl, rfl, rfl, rfl, Nat.zero_le _, PS.small_zero, ⟨fun _ => ⟨rfl, rfl⟩, fun h => by omega⟩, Blk.new _ _ _, al_be _ _⟩
  case round =>
    obtain ⟨k, a, t, s, rfl, rfl, rfl, rfl, rfl, hk, hs, hbk, ht⟩ := hrel
    have HS := Lib.hid hs
    have T0 := Lib.hid ht
    have HK := Lib.hid hbk
    have hF : f % 200 < 200 := Nat.mod_lt _ (by omega)
    clear hs ht hbk
    by_cases hlt : k < l.length
    · have hq := HL.out.2.2 k hlt
      have hB := (HL.out.2.1 (by omega)).2
      obtain rfl := (HL.out.2.1 (by omega)).1
      generalize l.getD k default = q at *
      have c0 := act_at0 hB T0.out.bel hq.k0
      have c1 := act_at hB T0.out.bel hq.k1
      have c2 := act_at hB T0.out.bel hq.k2
      have c3 := act_at hB T0.out.bel hq.k3
      have c4 := act_at hB T0.out.bel hq.k4
      have hk0 := hq.b0
      have hkl : (k : Int) < (l.length : Int) := by omega
      have T1 := Lib.hid (T0.out.to (al_be _ (.cells #[.int .u8 (q.k : Int), .int .u64 (q.n : Int), .int .u64 (q.r : Int), .int .u64 (q.q : Int), .int .u64 (q.x : Int)] 31)))
      have A1 := Lib.hid (Blk.new wr 31 #[.int .u8 (q.k : Int), .int .u64 (q.n : Int), .int .u64 (q.r : Int), .int .u64 (q.q : Int), .int .u64 (q.x : Int)])
      by_cases hbig : 1048576 < q.n ∨ 1048576 < q.r ∨ 1048576 < q.q ∨ 1048576 < q.x
      · rcases (show 1048576 < q.n ∨ (q.n ≤ 1048576 ∧ 1048576 < q.r) ∨ (q.n ≤ 1048576 ∧ q.r ≤ 1048576 ∧ 1048576 < q.q) ∨ (q.n ≤ 1048576 ∧ q.r ≤ 1048576 ∧ q.q ≤ 1048576 ∧ 1048576 < q.x) by omega) with hb1 | hb1 | hb1 | hb1
        · have d0 : decide ((1048576 : Int) < (q.n : Int)) = true := decide_eq_true (by omega)
          have e0 : decide (1048576 < q.n) = true := decide_eq_true (by omega)
          clear hb1 hbig hq hk0
          go_wp2_with (go_at_call 7; refine (HA.out _).mono ?_; rintro e w' ⟨rfl, hb⟩)
          go_ret
          exact ⟨rfl, bel_to T1.out.bel hb T1.out.bel.size⟩
        · have d0 : decide ((1048576 : Int) < (q.n : Int)) = false := decide_eq_false (by omega)
          have e0 : decide (1048576 < q.n) = false := decide_eq_false (by omega)
          have d1 : decide ((1048576 : Int) < (q.r : Int)) = true := decide_eq_true (by omega)
          have e1 : decide (1048576 < q.r) = true := decide_eq_true (by omega)
          clear hb1 hbig hq hk0
          go_wp2_with (go_at_call 7; refine (HA.out _).mono ?_; rintro e w' ⟨rfl, hb⟩)
          go_ret
          exact ⟨rfl, bel_to T1.out.bel hb T1.out.bel.size⟩
        · have d0 : decide ((1048576 : Int) < (q.n : Int)) = false := decide_eq_false (by omega)
          have e0 : decide (1048576 < q.n) = false := decide_eq_false (by omega)
          have d1 : decide ((1048576 : Int) < (q.r : Int)) = false := decide_eq_false (by omega)
          have e1 : decide (1048576 < q.r) = false := decide_eq_false (by omega)
          have d2 : decide ((1048576 : Int) < (q.q : Int)) = true := decide_eq_true (by omega)
          have e2 : decide (1048576 < q.q) = true := decide_eq_true (by omega)
          clear hb1 hbig hq hk0
          go_wp2_with (go_at_call 7; refine (HA.out _).mono ?_; rintro e w' ⟨rfl, hb⟩)
          go_ret
          exact ⟨rfl, bel_to T1.out.bel hb T1.out.bel.size⟩
        · have d0 : decide ((1048576 : Int) < (q.n : Int)) = false := decide_eq_false (by omega)
          have e0 : decide (1048576 < q.n) = false := decide_eq_false (by omega)
          have d1 : decide ((1048576 : Int) < (q.r : Int)) = false := decide_eq_false (by omega)
          have e1 : decide (1048576 < q.r) = false := decide_eq_false (by omega)
          have d2 : decide ((1048576 : Int) < (q.q : Int)) = false := decide_eq_false (by omega)
          have e2 : decide (1048576 < q.q) = false := decide_eq_false (by omega)
          have d3 : decide ((1048576 : Int) < (q.x : Int)) = true := decide_eq_true (by omega)
          have e3 : decide (1048576 < q.x) = true := decide_eq_true (by omega)
          clear hb1 hbig hq hk0
          go_wp2_with (go_at_call 7; refine (HA.out _).mono ?_; rintro e w' ⟨rfl, hb⟩)
          go_ret
          exact ⟨rfl, bel_to T1.out.bel hb T1.out.bel.size⟩
      · have hn := (show q.n ≤ 1048576 by omega)
        have hrr := (show q.r ≤ 1048576 by omega)
        have hqq := (show q.q ≤ 1048576 by omega)
        have hxx := (show q.x ≤ 1048576 by omega)
        have HN := Lib.hid hn
        have HR := Lib.hid hrr
        have HQ := Lib.hid hqq
        have HX := Lib.hid hxx
        have d0 : decide ((1048576 : Int) < (q.n : Int)) = false := decide_eq_false (by omega)
        have e0 : decide (1048576 < q.n) = false := decide_eq_false (by omega)
        have d1 : decide ((1048576 : Int) < (q.r : Int)) = false := decide_eq_false (by omega)
        have e1 : decide (1048576 < q.r) = false := decide_eq_false (by omega)
        have d2 : decide ((1048576 : Int) < (q.q : Int)) = false := decide_eq_false (by omega)
        have e2 : decide (1048576 < q.q) = false := decide_eq_false (by omega)
        have d3 : decide ((1048576 : Int) < (q.x : Int)) = false := decide_eq_false (by omega)
        have e3 : decide (1048576 < q.x) = false := decide_eq_false (by omega)
        have HP : Hid (∀ w, One W s w → Calls Try.prog 9 #[.pointer (some ⟨W.heap.size, 0, none⟩), .int .u64 (q.n : Int), .int .u64 (q.r : Int), .int .u64 (q.q : Int)] w fun e w' => e = .returned (.int .i64 (s.tickE q.n)) ∧ Hid (One W (s.tickS q.n q.r q.q) w') ∧ w.grownBy w' (some W.heap.size)) := Lib.hid (fun w h => (pc_Tick _ q.n q.r q.q s w h.p HS.out.ok hq.b1 hq.b2 hq.b3).mono fun e w' k => ⟨k.e, Lib.hid (h.pp k), k.gr⟩)
        have HT : Hid (∀ w, One W s w → Calls Try.prog 11 #[.pointer (some ⟨W.heap.size, 0, none⟩), .int .u64 (q.x : Int)] w fun e w' => e = .returned (.bool (s.takeB q.x)) ∧ Hid (One W (s.takeS q.x) w') ∧ w.grownBy w' (some W.heap.size)) := Lib.hid (fun w h => (pc_Take _ q.x s w h.p HS.out.ok hq.b4).mono fun e w' k => ⟨k.e, Lib.hid (h.pp k), k.gr⟩)
        have hs1 := HS.out.2.1
        have hs2 := HS.out.2.2.1
        have hne : wr.heap.size ≠ W.heap.size := by have := T0.out.p.lt; omega
        have HNe := Lib.hid hne
        clear hne
        clear hbig hq
        rcases (show ∃ cc a1, Hid (decide (f % 200 ≤ k) = cc) ∧ Hid (Books1 cc k s a1 t) ∧ ((cc = false ∧ a1 = a ∧ k < f % 200) ∨ (cc = true ∧ a1 = s.q * 1000000 ∧ k = f % 200) ∨ (cc = true ∧ a1 = a ∧ f % 200 < k)) from by
          rcases Nat.lt_trichotomy k (f % 200) with h | h | h
          · exact ⟨false, a, Lib.hid (decide_eq_false (by omega)), Lib.hid (HK.out.before h), Or.inl ⟨rfl, rfl, h⟩⟩
          · exact ⟨true, _, Lib.hid (decide_eq_true (by omega)), Lib.hid (HK.out.at_ HS.out h), Or.inr (Or.inl ⟨rfl, rfl, h⟩)⟩
          · exact ⟨true, a, Lib.hid (decide_eq_true (by omega)), Lib.hid (HK.out.behind h), Or.inr (Or.inr ⟨rfl, rfl, h⟩)⟩) with ⟨cc, a1, HC, HB1, hcase⟩
        have HM := Lib.hid hr
        generalize f % 200 = F at *
        rcases hcase with ⟨hcc, ha1, hkF⟩ | ⟨hcc, ha1, hkF⟩ | ⟨hcc, ha1, hkF⟩
        · have g0 : decide (F ≤ k) = false := decide_eq_false (by omega)
          have g1 : decide ((F : Int) ≤ (k : Int)) = false := decide_eq_false (by omega)
          have g2 : ((k : Int) == (F : Int)) = false := beq_eq_false_iff_ne.2 (by omega)
          have ha2 : a1 ≤ 2199023255552000 := by
            have := HB1.out
            rw [hcc] at this
            have := this.1 rfl
            omega
          have ht2 : t ≤ 2199023255552000 := by
            have := HB1.out
            rw [hcc] at this
            have := this.1 rfl
            omega
          skip
          skip
          have HA2 := Lib.hid ha2
          have HT2 := Lib.hid ht2
          subst hcc
          subst ha1
          clear hkF HK ha2 ht2
          rcases (show q.k % 2 = 1 ∨ q.k % 2 = 0 by omega) with hkk | hkk
          · have hm : (q.k : Int) % 2 = 1 := by omega
            have hm' : Int.tmod (q.k : Int) 2 = 1 := by rw [Int.tmod_eq_emod_of_nonneg (by omega)]; omega
            clear hkk HP
            by_cases hct : s.takeB q.x = true
            · have HS2 := Lib.hid (PS.take_small HS.out q.x)
              rw [hct] at HT
              have hz2 : decide (a1 < t) = false := decide_eq_false (by have := HB1.out.1 rfl; omega)
              have hz3 : decide ((a1 : Int) < (t : Int)) = false := decide_eq_false (by have := HB1.out.1 rfl; omega)
              clear hct
              go_wp2_with (go_at_call 11; (refine (HT.out _ T1.out).mono ?_); rintro e w2 ⟨rfl, T2, g⟩; have A2 := A1.out.grown g (by simpa using HNe.out); have x4 := A2.cell (i := 4) (v := .int .u64 (q.x : Int)) rfl)
              obtain ⟨er, eq_, et⟩ := PS.take_rqt s q.x
              rw [← eq_, ← et]
              go_roundw
              case rel => exact ⟨k + 1, a1, t, s.takeS q.x, by go_num, by rw [et], by rw [eq_], by go_num, by go_num, by omega, HS2.out, Books.next HC.out (HB1.out.no), T2.out⟩
              case measure => simp [intOf]; omega
            · have hct' : s.takeB q.x = false := by simpa using hct
              have HEq := Lib.hid (PS.take_no hct')
              rw [hct', HEq.out] at HT
              have hz2 : decide (a1 < t) = false := decide_eq_false (by have := HB1.out.1 rfl; omega)
              have hz3 : decide ((a1 : Int) < (t : Int)) = false := decide_eq_false (by have := HB1.out.1 rfl; omega)
              clear hct hct'
              go_wp2_with (go_at_call 11; (refine (HT.out _ T1.out).mono ?_); rintro e w2 ⟨rfl, T2, g⟩)
              go_roundw
              case rel => exact ⟨k + 1, a1, t, s, by go_num, rfl, rfl, by go_num, by go_num, by omega, HS.out, Books.next HC.out HB1.out, T2.out⟩
              case measure => simp [intOf]; omega
          · have hm : (q.k : Int) % 2 = 0 := by omega
            have hm' : Int.tmod (q.k : Int) 2 = 0 := by rw [Int.tmod_eq_emod_of_nonneg (by omega)]; omega
            clear hkk HT
            by_cases hct : q.n < s.t
            · have HEq := Lib.hid (PS.tick_no (r := q.r) (q := q.q) hct)
              have HE2 : Hid (s.tickE q.n = 2) := Lib.hid (by unfold PS.tickE; rw [if_pos hct])
              rw [HE2.out, HEq.out] at HP
              clear hct
              go_wp2_with (go_at_call 9; (refine (HP.out _ T1.out).mono ?_); rintro e w2 ⟨rfl, T2, g⟩)
              go_roundw
              case rel => exact ⟨k + 1, a1, t, s, by go_num, rfl, rfl, by go_num, by go_num, by omega, HS.out, Books.next HC.out HB1.out, T2.out⟩
              case measure => simp [intOf]; omega
            · have HE2 : Hid (s.tickE q.n = 0) := Lib.hid (by unfold PS.tickE; rw [if_neg hct])
              have HS2 := Lib.hid (PS.tick_small HS.out HN.out HR.out HQ.out)
              have he : (s.tickS q.n q.r q.q).t = q.n ∧ (s.tickS q.n q.r q.q).q = q.q := by rw [PS.tick_eq HS.out (by omega) hrr hqq (by omega)]; exact ⟨rfl, rfl⟩
              rw [HE2.out] at HP
              clear hct
              have hgt := he
              go_wp2_with (go_at_call 9; (refine (HP.out _ T1.out).mono ?_); rintro e w2 ⟨rfl, T2, g⟩; have A2 := A1.out.grown g (by simpa using HNe.out); have x0 := A2.cell (i := 0) (v := .int .u8 (q.k : Int)) rfl; have x1 := A2.cell (i := 1) (v := .int .u64 (q.n : Int)) rfl; have x2 := A2.cell (i := 2) (v := .int .u64 (q.r : Int)) rfl; have x3 := A2.cell (i := 3) (v := .int .u64 (q.q : Int)) rfl)
              go_roundw
              case rel => exact ⟨k + 1, a1, t, s.tickS q.n q.r q.q, by go_num, by rw [hgt.1], by rw [hgt.2], by go_num, by go_num, by omega, HS2.out, Books.next HC.out HB1.out.no, T2.out⟩
              case measure => simp [intOf]; omega
        · have g0 : decide (F ≤ k) = true := decide_eq_true (by omega)
          have g1 : decide ((F : Int) ≤ (k : Int)) = true := decide_eq_true (by omega)
          have g2 : ((k : Int) == (F : Int)) = true := beq_iff_eq.2 (by omega)
          have ha2 : a1 ≤ 2199023255552000 := by
            have := HB1.out
            rw [hcc] at this
            have := this.2 rfl
            omega
          have ht2 : t ≤ 2199023255552000 := by
            have := HB1.out
            rw [hcc] at this
            have := this.2 rfl
            omega
          have ha3 : (s.q : Int) * 1000000 = (a1 : Int) := by omega
          have hwa : IntKind.u64.wrap (a1 : Int) = (a1 : Int) := by rw [IntKind.wrap_u64]; omega
          have HA2 := Lib.hid ha2
          have HT2 := Lib.hid ht2
          subst hcc
          clear ha1
          clear hkF HK ha2 ht2
          rcases (show q.k % 2 = 1 ∨ q.k % 2 = 0 by omega) with hkk | hkk
          · have hm : (q.k : Int) % 2 = 1 := by omega
            have hm' : Int.tmod (q.k : Int) 2 = 1 := by rw [Int.tmod_eq_emod_of_nonneg (by omega)]; omega
            clear hkk HP
            by_cases hct : s.takeB q.x = true
            · have HS2 := Lib.hid (PS.take_small HS.out q.x)
              rw [hct] at HT
              have HBk := Lib.hid (HB1.out.take HX.out hct)
              have hy1 : (q.x : Int) * 1000000 = ((q.x * 1000000 : Nat) : Int) := by omega
              have hy2 : IntKind.u64.wrap ((q.x * 1000000 : Nat) : Int) = ((q.x * 1000000 : Nat) : Int) := by rw [IntKind.wrap_u64]; omega
              have hy3 : (t : Int) + ((q.x * 1000000 : Nat) : Int) = ((t + q.x * 1000000 : Nat) : Int) := by omega
              have hy4 : IntKind.u64.wrap ((t + q.x * 1000000 : Nat) : Int) = ((t + q.x * 1000000 : Nat) : Int) := by have := HT2.out; rw [IntKind.wrap_u64]; omega
              have hz2 : decide (a1 < t + q.x * 1000000) = false := decide_eq_false (by have := HBk.out.2; omega)
              have hz3 : decide ((a1 : Int) < ((t + q.x * 1000000 : Nat) : Int)) = false := decide_eq_false (by have := HBk.out.2; omega)
              have HBk1 := Lib.hid HBk.out.1
              clear HBk
              generalize t + q.x * 1000000 = t2 at *
              generalize q.x * 1000000 = y at *
              clear hct
              go_wp2_with (go_at_call 11; (refine (HT.out _ T1.out).mono ?_); rintro e w2 ⟨rfl, T2, g⟩; have A2 := A1.out.grown g (by simpa using HNe.out); have x4 := A2.cell (i := 4) (v := .int .u64 (q.x : Int)) rfl)
              obtain ⟨er, eq_, et⟩ := PS.take_rqt s q.x
              rw [← eq_, ← et]
              go_roundw
              case rel => exact ⟨k + 1, a1, t2, s.takeS q.x, by go_num, by rw [et], by rw [eq_], by go_num, by go_num, by omega, HS2.out, Books.next HC.out (HBk1.out), T2.out⟩
              case measure => simp [intOf]; omega
            · have hct' : s.takeB q.x = false := by simpa using hct
              have HEq := Lib.hid (PS.take_no hct')
              rw [hct', HEq.out] at HT
              have hz2 : decide (a1 < t) = false := decide_eq_false (by have := HB1.out.2 rfl; omega)
              have hz3 : decide ((a1 : Int) < (t : Int)) = false := decide_eq_false (by have := HB1.out.2 rfl; omega)
              clear hct hct'
              go_wp2_with (go_at_call 11; (refine (HT.out _ T1.out).mono ?_); rintro e w2 ⟨rfl, T2, g⟩)
              go_roundw
              case rel => exact ⟨k + 1, a1, t, s, by go_num, rfl, rfl, by go_num, by go_num, by omega, HS.out, Books.next HC.out HB1.out, T2.out⟩
              case measure => simp [intOf]; omega
          · have hm : (q.k : Int) % 2 = 0 := by omega
            have hm' : Int.tmod (q.k : Int) 2 = 0 := by rw [Int.tmod_eq_emod_of_nonneg (by omega)]; omega
            clear hkk HT
            by_cases hct : q.n < s.t
            · have HEq := Lib.hid (PS.tick_no (r := q.r) (q := q.q) hct)
              have HE2 : Hid (s.tickE q.n = 2) := Lib.hid (by unfold PS.tickE; rw [if_pos hct])
              rw [HE2.out, HEq.out] at HP
              clear hct
              go_wp2_with (go_at_call 9; (refine (HP.out _ T1.out).mono ?_); rintro e w2 ⟨rfl, T2, g⟩)
              go_roundw
              case rel => exact ⟨k + 1, a1, t, s, by go_num, rfl, rfl, by go_num, by go_num, by omega, HS.out, Books.next HC.out HB1.out, T2.out⟩
              case measure => simp [intOf]; omega
            · have HE2 : Hid (s.tickE q.n = 0) := Lib.hid (by unfold PS.tickE; rw [if_neg hct])
              have HS2 := Lib.hid (PS.tick_small HS.out HN.out HR.out HQ.out)
              have he : (s.tickS q.n q.r q.q).t = q.n ∧ (s.tickS q.n q.r q.q).q = q.q := by rw [PS.tick_eq HS.out (by omega) hrr hqq (by omega)]; exact ⟨rfl, rfl⟩
              rw [HE2.out] at HP
              have HBk := Lib.hid (HB1.out.tick HS.out HN.out HR.out HQ.out (by omega))
              have hzz : q.r * (q.n - s.t) ≤ 4398046511104 := PS.mul_two hrr (by omega)
              have hl1 : (q.n : Int) - (s.t : Int) = ((q.n - s.t : Nat) : Int) := by omega
              have hw1 : IntKind.u64.wrap ((q.n - s.t : Nat) : Int) = ((q.n - s.t : Nat) : Int) := by rw [IntKind.wrap_u64]; omega
              have hl3 : (q.r : Int) * ((q.n - s.t : Nat) : Int) = ((q.r * (q.n - s.t) : Nat) : Int) := by rw [Int.natCast_mul]
              have hw2 : IntKind.u64.wrap ((q.r * (q.n - s.t) : Nat) : Int) = ((q.r * (q.n - s.t) : Nat) : Int) := by rw [IntKind.wrap_u64]; omega
              have hl4 : (a1 : Int) + ((q.r * (q.n - s.t) : Nat) : Int) = ((a1 + q.r * (q.n - s.t) : Nat) : Int) := by omega
              have hw3 : IntKind.u64.wrap ((a1 + q.r * (q.n - s.t) : Nat) : Int) = ((a1 + q.r * (q.n - s.t) : Nat) : Int) := by have := HA2.out; rw [IntKind.wrap_u64]; omega
              clear hzz
              generalize a1 + q.r * (q.n - s.t) = a2 at *
              generalize q.r * (q.n - s.t) = z at *
              generalize q.n - s.t = d at *
              clear hct
              have hgt := he
              go_wp2_with (go_at_call 9; (refine (HP.out _ T1.out).mono ?_); rintro e w2 ⟨rfl, T2, g⟩; have A2 := A1.out.grown g (by simpa using HNe.out); have x0 := A2.cell (i := 0) (v := .int .u8 (q.k : Int)) rfl; have x1 := A2.cell (i := 1) (v := .int .u64 (q.n : Int)) rfl; have x2 := A2.cell (i := 2) (v := .int .u64 (q.r : Int)) rfl; have x3 := A2.cell (i := 3) (v := .int .u64 (q.q : Int)) rfl)
              go_roundw
              case rel => exact ⟨k + 1, a2, t, s.tickS q.n q.r q.q, by go_num, by rw [hgt.1], by rw [hgt.2], by go_num, by go_num, by omega, HS2.out, Books.tick HC.out HBk.out.1 HBk.out.2, T2.out⟩
              case measure => simp [intOf]; omega
        · have g0 : decide (F ≤ k) = true := decide_eq_true (by omega)
          have g1 : decide ((F : Int) ≤ (k : Int)) = true := decide_eq_true (by omega)
          have g2 : ((k : Int) == (F : Int)) = false := beq_eq_false_iff_ne.2 (by omega)
          have ha2 : a1 ≤ 2199023255552000 := by
            have := HB1.out
            rw [hcc] at this
            have := this.2 rfl
            omega
          have ht2 : t ≤ 2199023255552000 := by
            have := HB1.out
            rw [hcc] at this
            have := this.2 rfl
            omega
          skip
          skip
          have HA2 := Lib.hid ha2
          have HT2 := Lib.hid ht2
          subst hcc
          subst ha1
          clear hkF HK ha2 ht2
          rcases (show q.k % 2 = 1 ∨ q.k % 2 = 0 by omega) with hkk | hkk
          · have hm : (q.k : Int) % 2 = 1 := by omega
            have hm' : Int.tmod (q.k : Int) 2 = 1 := by rw [Int.tmod_eq_emod_of_nonneg (by omega)]; omega
            clear hkk HP
            by_cases hct : s.takeB q.x = true
            · have HS2 := Lib.hid (PS.take_small HS.out q.x)
              rw [hct] at HT
              have HBk := Lib.hid (HB1.out.take HX.out hct)
              have hy1 : (q.x : Int) * 1000000 = ((q.x * 1000000 : Nat) : Int) := by omega
              have hy2 : IntKind.u64.wrap ((q.x * 1000000 : Nat) : Int) = ((q.x * 1000000 : Nat) : Int) := by rw [IntKind.wrap_u64]; omega
              have hy3 : (t : Int) + ((q.x * 1000000 : Nat) : Int) = ((t + q.x * 1000000 : Nat) : Int) := by omega
              have hy4 : IntKind.u64.wrap ((t + q.x * 1000000 : Nat) : Int) = ((t + q.x * 1000000 : Nat) : Int) := by have := HT2.out; rw [IntKind.wrap_u64]; omega
              have hz2 : decide (a1 < t + q.x * 1000000) = false := decide_eq_false (by have := HBk.out.2; omega)
              have hz3 : decide ((a1 : Int) < ((t + q.x * 1000000 : Nat) : Int)) = false := decide_eq_false (by have := HBk.out.2; omega)
              have HBk1 := Lib.hid HBk.out.1
              clear HBk
              generalize t + q.x * 1000000 = t2 at *
              generalize q.x * 1000000 = y at *
              clear hct
              go_wp2_with (go_at_call 11; (refine (HT.out _ T1.out).mono ?_); rintro e w2 ⟨rfl, T2, g⟩; have A2 := A1.out.grown g (by simpa using HNe.out); have x4 := A2.cell (i := 4) (v := .int .u64 (q.x : Int)) rfl)
              obtain ⟨er, eq_, et⟩ := PS.take_rqt s q.x
              rw [← eq_, ← et]
              go_roundw
              case rel => exact ⟨k + 1, a1, t2, s.takeS q.x, by go_num, by rw [et], by rw [eq_], by go_num, by go_num, by omega, HS2.out, Books.next HC.out (HBk1.out), T2.out⟩
              case measure => simp [intOf]; omega
            · have hct' : s.takeB q.x = false := by simpa using hct
              have HEq := Lib.hid (PS.take_no hct')
              rw [hct', HEq.out] at HT
              have hz2 : decide (a1 < t) = false := decide_eq_false (by have := HB1.out.2 rfl; omega)
              have hz3 : decide ((a1 : Int) < (t : Int)) = false := decide_eq_false (by have := HB1.out.2 rfl; omega)
              clear hct hct'
              go_wp2_with (go_at_call 11; (refine (HT.out _ T1.out).mono ?_); rintro e w2 ⟨rfl, T2, g⟩)
              go_roundw
              case rel => exact ⟨k + 1, a1, t, s, by go_num, rfl, rfl, by go_num, by go_num, by omega, HS.out, Books.next HC.out HB1.out, T2.out⟩
              case measure => simp [intOf]; omega
          · have hm : (q.k : Int) % 2 = 0 := by omega
            have hm' : Int.tmod (q.k : Int) 2 = 0 := by rw [Int.tmod_eq_emod_of_nonneg (by omega)]; omega
            clear hkk HT
            by_cases hct : q.n < s.t
            · have HEq := Lib.hid (PS.tick_no (r := q.r) (q := q.q) hct)
              have HE2 : Hid (s.tickE q.n = 2) := Lib.hid (by unfold PS.tickE; rw [if_pos hct])
              rw [HE2.out, HEq.out] at HP
              clear hct
              go_wp2_with (go_at_call 9; (refine (HP.out _ T1.out).mono ?_); rintro e w2 ⟨rfl, T2, g⟩)
              go_roundw
              case rel => exact ⟨k + 1, a1, t, s, by go_num, rfl, rfl, by go_num, by go_num, by omega, HS.out, Books.next HC.out HB1.out, T2.out⟩
              case measure => simp [intOf]; omega
            · have HE2 : Hid (s.tickE q.n = 0) := Lib.hid (by unfold PS.tickE; rw [if_neg hct])
              have HS2 := Lib.hid (PS.tick_small HS.out HN.out HR.out HQ.out)
              have he : (s.tickS q.n q.r q.q).t = q.n ∧ (s.tickS q.n q.r q.q).q = q.q := by rw [PS.tick_eq HS.out (by omega) hrr hqq (by omega)]; exact ⟨rfl, rfl⟩
              rw [HE2.out] at HP
              have HBk := Lib.hid (HB1.out.tick HS.out HN.out HR.out HQ.out (by omega))
              have hzz : q.r * (q.n - s.t) ≤ 4398046511104 := PS.mul_two hrr (by omega)
              have hl1 : (q.n : Int) - (s.t : Int) = ((q.n - s.t : Nat) : Int) := by omega
              have hw1 : IntKind.u64.wrap ((q.n - s.t : Nat) : Int) = ((q.n - s.t : Nat) : Int) := by rw [IntKind.wrap_u64]; omega
              have hl3 : (q.r : Int) * ((q.n - s.t : Nat) : Int) = ((q.r * (q.n - s.t) : Nat) : Int) := by rw [Int.natCast_mul]
              have hw2 : IntKind.u64.wrap ((q.r * (q.n - s.t) : Nat) : Int) = ((q.r * (q.n - s.t) : Nat) : Int) := by rw [IntKind.wrap_u64]; omega
              have hl4 : (a1 : Int) + ((q.r * (q.n - s.t) : Nat) : Int) = ((a1 + q.r * (q.n - s.t) : Nat) : Int) := by omega
              have hw3 : IntKind.u64.wrap ((a1 + q.r * (q.n - s.t) : Nat) : Int) = ((a1 + q.r * (q.n - s.t) : Nat) : Int) := by have := HA2.out; rw [IntKind.wrap_u64]; omega
              clear hzz
              generalize a1 + q.r * (q.n - s.t) = a2 at *
              generalize q.r * (q.n - s.t) = z at *
              generalize q.n - s.t = d at *
              clear hct
              have hgt := he
              go_wp2_with (go_at_call 9; (refine (HP.out _ T1.out).mono ?_); rintro e w2 ⟨rfl, T2, g⟩; have A2 := A1.out.grown g (by simpa using HNe.out); have x0 := A2.cell (i := 0) (v := .int .u8 (q.k : Int)) rfl; have x1 := A2.cell (i := 1) (v := .int .u64 (q.n : Int)) rfl; have x2 := A2.cell (i := 2) (v := .int .u64 (q.r : Int)) rfl; have x3 := A2.cell (i := 3) (v := .int .u64 (q.q : Int)) rfl)
              go_roundw
              case rel => exact ⟨k + 1, a2, t, s.tickS q.n q.r q.q, by go_num, by rw [hgt.1], by rw [hgt.2], by go_num, by go_num, by omega, HS2.out, Books.tick HC.out HBk.out.1 HBk.out.2, T2.out⟩
              case measure => simp [intOf]; omega
    · have hlt' : decide (k < l.length) = false := decide_eq_false hlt
      go_wp2_with (go_at_call 7; refine (HA.out _).mono ?_; rintro e w' ⟨rfl, hb⟩)
      go_ret
      exact ⟨rfl, bel_to T0.out.bel hb T0.out.bel.size⟩

theorem PacerNoMore_walk (v : Option Addr) (n c f : Nat) (l : List Act16) (b off : Nat) (W : World) (hf : f ≤ 65535) (h : l.length = n ∧ InAct16 W v l b off) :
    Calls Try.prog 4 #[.slice v n c, .int .u16 (f : Int)] W fun e w' => e = .returned (.bool true) ∧ Below W.heap.size W w' := by
  obtain ⟨rfl, h⟩ := h
  by_cases hl : 200 < l.length
  · exact nomore_long v c b off f l W h hl
  · exact nomore_short v c b off f l W h (by omega) hf
end Go.Proofs.Ytafmfkgaijnfbaa
