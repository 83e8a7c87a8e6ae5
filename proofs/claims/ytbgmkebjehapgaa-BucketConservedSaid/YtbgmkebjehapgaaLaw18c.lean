/- BucketConserved over this translation: what was taken, was wasted, and is there, is the rate times the time. -/
import Derived.Test.YtbgmkebjehapgaaBkn
import Derived.Test.YtbgmkebjehapgaaLaw18m
import Derived.Test.YtbgmkebjehapgaaLaw18a
import Derived.Test.YtbgmkebjehapgaaIn18
import Derived.Deep.DeepCutAuto
import Derived.Deep.LoopGhost
set_option linter.unusedVariables false
namespace Go.Proofs.Ytbgmkebjehapgaa
open Go.RowKit

/-- A bucket of the call's own. -/
structure One18 (W : World) (s : KB) (w : World) : Prop where
  p : Blk w W.heap.size 43 s.cells
  bel : Below W.heap.size W w
theorem One18.to {W w w' : World} {s : KB} (h : One18 W s w) (k : Below w.heap.size w w') : One18 W s w' := ⟨h.p.keep k, bel_to h.bel k h.bel.size⟩
theorem One18.pp {W w w' : World} {s s' : KB} {r : Value} {e : Ending} (h : One18 W s w) (k : KPost w W.heap.size r s' e w') : One18 W s' w' := ⟨k.blk, bel_gr h.bel k.gr h.bel.size (Nat.le_refl _)⟩
theorem kc_at {W w : World} {b o j : Nat} {v : Value} (hb : b < W.heap.size) (g : Below W.heap.size W w) (h : W.cell? ⟨b, o + j, none⟩ = some v) : w.cell? ⟨b, o + j, none⟩ = some v := (g.cell (p := ⟨b, _, none⟩) hb).trans h
theorem kc_at0 {W w : World} {b o : Nat} {v : Value} (hb : b < W.heap.size) (g : Below W.heap.size W w) (h : W.cell? ⟨b, o, none⟩ = some v) : w.cell? ⟨b, o, none⟩ = some v := (g.cell (p := ⟨b, _, none⟩) hb).trans h

theorem cons18_long (v : Option Addr) (c b off r : Nat) (l : List Act18) (W : World) (h : InAct18 W v l b off) (hf : 200 < l.length ∨ 1048576 < r) :
    Calls Try.prog 4 #[.int .u64 (r : Int), .slice v l.length c] W fun e w' => e = .returned (.bool true) ∧ Below W.heap.size W w' := by
  have HA := Lib.hid (alive18 W)
  have hm := h.1
  by_cases h2 : 200 < l.length
  · have d0 : decide ((200 : Int) < (l.length : Int)) = true := decide_eq_true (by omega)
    have d1 : decide (200 < l.length) = true := decide_eq_true h2
    clear h hf h2
    go_enter Try.func4, Try.ntmps4
    go_wp2_with (go_at_call 6; refine (HA.out).mono ?_; rintro e w' ⟨rfl, hb⟩)
    go_ret
    exact ⟨rfl, hb⟩
  · have d0 : decide ((200 : Int) < (l.length : Int)) = false := decide_eq_false (by omega)
    have d1 : decide (200 < l.length) = false := decide_eq_false h2
    have d2 : decide ((1048576 : Int) < (r : Int)) = true := decide_eq_true (by omega)
    have d3 : decide (1048576 < r) = true := decide_eq_true (by omega)
    clear h hf h2
    go_enter Try.func4, Try.ntmps4
    go_wp2_with (go_at_call 6; refine (HA.out).mono ?_; rintro e w' ⟨rfl, hb⟩)
    go_ret
    exact ⟨rfl, hb⟩

/-- What holds at each round's head. -/
def Cons18 (W : World) (n k r : Nat) (s : KB) (u : Nat) (w : World) : Prop := k ≤ n ∧ s.cons u ∧ s.r = r ∧ One18 W s w

set_option maxRecDepth 100000 in
set_option maxHeartbeats 8000000 in
theorem cons18_short (v : Option Addr) (c b off r : Nat) (l : List Act18) (W : World) (h : InAct18 W v l b off) (hf : l.length ≤ 200) (hr : r ≤ 1048576) :
    Calls Try.prog 4 #[.int .u64 (r : Int), .slice v l.length c] W fun e w' => e = .returned (.bool true) ∧ Below W.heap.size W w' := by
  have HL := Lib.hid h
  have HA := Lib.hid alive18
  have HR := Lib.hid hr
  have hc : decide (200 < l.length) = false := decide_eq_false (by omega)
  have hc' : decide ((200 : Int) < (l.length : Int)) = false := decide_eq_false (by omega)
  have hd : decide (1048576 < r) = false := decide_eq_false (by omega)
  have hd' : decide ((1048576 : Int) < (r : Int)) = false := decide_eq_false (by omega)
  clear h hr
  go_enter Try.func4, Try.ntmps4
  go_wp2_with (go_at_call 7; refine (bk_New r _).mono ?_; rintro e w0 ⟨rfl, rfl⟩)
  go_loopw [8, 6, 7] (fun i nw us wr => ∃ (k u : Nat) (s : KB), i = .int .i64 (k : Int) ∧ nw = .int .u64 (s.t : Int) ∧ us = .int .u64 (u : Int) ∧ Cons18 W l.length k r s u wr) (fun i _ _ _ => l.length - (intOf i).toNat)
  case atStart =>
    exact ⟨0, 0, KB.start r, rfl, rfl, rfl, Nat.zero_le _, KB.cons_start HR.out, rfl, Blk.new _ _ _, al_be _ _⟩
  case round =>
    obtain ⟨k, u, s, rfl, rfl, rfl, hk, hs, hsr, ht⟩ := hrel
    have HS := Lib.hid hs
    have T0 := Lib.hid ht
    have HSr := Lib.hid hsr
    clear hs ht hsr
    by_cases hlt : k < l.length
    · have hq := HL.out.2.2 k hlt
      have hB := (HL.out.2.1 (by omega)).2
      obtain rfl := (HL.out.2.1 (by omega)).1
      generalize l.getD k default = q at *
      have HB := Lib.hid hB
      have HQ := Lib.hid hq
      have c0 := kc_at0 hB T0.out.bel hq.k0
      have c1 := kc_at hB T0.out.bel hq.k1
      have hk0 := hq.b0
      clear hB hq
      by_cases hbig : 1048576 < q.n
      · have d0 : decide ((1048576 : Int) < (q.n : Int)) = true := decide_eq_true (by omega)
        have d1 : decide (1048576 < q.n) = true := decide_eq_true (by omega)
        clear hbig
        go_wp2_with (go_at_call 6; refine (HA.out _).mono ?_; rintro e w' ⟨rfl, hb⟩)
        go_ret
        exact ⟨rfl, bel_to T0.out.bel hb T0.out.bel.size⟩
      · have hx : q.n ≤ 1048576 := by omega
        have HX := Lib.hid hx
        have d0 : decide ((1048576 : Int) < (q.n : Int)) = false := decide_eq_false (by omega)
        have d1 : decide (1048576 < q.n) = false := decide_eq_false (by omega)
        clear hbig
        rcases (show q.k % 3 = 0 ∨ q.k % 3 = 1 ∨ q.k % 3 = 2 by omega) with hkk | hkk | hkk
        · have hm : (q.k : Int) % 3 = 0 := by omega
          have hm' : Int.tmod (q.k : Int) 3 = 0 := by rw [Int.tmod_eq_emod_of_nonneg (by omega)]; omega
          have HP := Lib.hid (fun w (h : One18 W s w) => (bk_To _ q.n s w h.p (KB.cons_ok HS.out) (by omega)).mono fun e w' k => (⟨k.e, Lib.hid (h.pp k)⟩ : e = .returned (.tuple #[]) ∧ Hid (One18 W (s.toS q.n) w')))
          have HC := Lib.hid (KB.cons_to HS.out hx).1
          have Ht := Lib.hid (KB.cons_to HS.out hx).2.1
          have Hr : Hid ((s.toS q.n).r = r) := Lib.hid ((KB.cons_to HS.out hx).2.2.trans HSr.out)
          generalize s.toS q.n = s' at *
          have hmx : (if s.t < q.n then (q.n : Int) else (s.t : Int)) = (s'.t : Int) := by rw [Ht.out]; split <;> omega
          have hh := HC.out
          have hall := KB.cons_all hh
          have hsum := hh.2.2
          have hrr := Hr.out
          rw [hrr] at hall hsum
          have z1 : (u : Int) + (s'.w : Int) = ((u + s'.w : Nat) : Int) := by omega
          have z3 : ((u + s'.w : Nat) : Int) + (s'.n : Int) = ((r * s'.t : Nat) : Int) := by omega
          have z5 : (r : Int) * (s'.t : Int) = ((r * s'.t : Nat) : Int) := by rw [Int.natCast_mul]
          generalize r * s'.t = P at *
          have z2 : IntKind.u64.wrap ((u + s'.w : Nat) : Int) = ((u + s'.w : Nat) : Int) := by rw [IntKind.wrap_u64]; omega
          have z4 : IntKind.u64.wrap (P : Int) = (P : Int) := by rw [IntKind.wrap_u64]; omega
          generalize u + s'.w = Q at *
          clear hh hall hsum hrr
          clear hkk
          go_wp2_with fail
          refine (HP.out _ T0.out).mono ?_
          rintro e w1 ⟨rfl, T2⟩
          have c1 := kc_at HB.out T2.out.bel HQ.out.k1
          have c0 := kc_at0 HB.out T2.out.bel HQ.out.k0
          go_wp2_with (first
            | (go_at_call 15; (refine (bk_Wasted _ s' _ T2.out.p).mono ?_); rintro e w' ⟨rfl, rfl⟩)
            | (go_at_call 14; (refine (bk_Tokens _ s' _ T2.out.p).mono ?_); rintro e w' ⟨rfl, rfl⟩))
          go_roundw
          case rel => exact ⟨k + 1, u, s', by go_num, by first | rfl | rw [hmx], rfl, by omega, HC.out, Hr.out, T2.out⟩
          case measure => simp [intOf]; omega
        · have hm : (q.k : Int) % 3 = 1 := by omega
          have hm' : Int.tmod (q.k : Int) 3 = 1 := by rw [Int.tmod_eq_emod_of_nonneg (by omega)]; omega
          obtain ⟨k1, k2, Ht, hr2⟩ := KB.cons_take HS.out hx
          have Hr : Hid ((s.takeS q.n).r = r) := Lib.hid (hr2.trans HSr.out)
          clear hr2 hkk
          cases hct : s.takeB q.n with
          | true =>
            have HC := Lib.hid (k1 hct)
            have HP : Hid (∀ w, One18 W s w → Calls Try.prog 10 #[.pointer (some ⟨W.heap.size, 0, none⟩), .int .u64 (q.n : Int)] w fun e w' => e = .returned (.bool true) ∧ Hid (One18 W (s.takeS q.n) w')) := Lib.hid (fun w h => (bk_Take _ q.n s w h.p (KB.cons_ok HS.out) (by omega)).mono fun e w' k => ⟨by rw [← hct]; exact k.e, Lib.hid (h.pp k)⟩)
            clear k1 k2 hct
            generalize s.takeS q.n = s' at *
            have hu : u + q.n * 1000000 ≤ 1099511627776 := by have := KB.cons_all HC.out; have := HC.out.2.2; omega
            have y1 : (q.n : Int) * 1000000 = ((q.n * 1000000 : Nat) : Int) := by omega
            have y2 : IntKind.u64.wrap ((q.n * 1000000 : Nat) : Int) = ((q.n * 1000000 : Nat) : Int) := by rw [IntKind.wrap_u64]; omega
            have y3 : (u : Int) + ((q.n * 1000000 : Nat) : Int) = ((u + q.n * 1000000 : Nat) : Int) := by omega
            have y4 : IntKind.u64.wrap ((u + q.n * 1000000 : Nat) : Int) = ((u + q.n * 1000000 : Nat) : Int) := by rw [IntKind.wrap_u64]; omega
            generalize u + q.n * 1000000 = u2 at *
            generalize q.n * 1000000 = y at *
            clear hu
            have hh := HC.out
            have hall := KB.cons_all hh
            have hsum := hh.2.2
            have hrr := Hr.out
            rw [hrr] at hall hsum
            have z1 : (u2 : Int) + (s'.w : Int) = ((u2 + s'.w : Nat) : Int) := by omega
            have z3 : ((u2 + s'.w : Nat) : Int) + (s'.n : Int) = ((r * s'.t : Nat) : Int) := by omega
            have z5 : (r : Int) * (s'.t : Int) = ((r * s'.t : Nat) : Int) := by rw [Int.natCast_mul]
            generalize r * s'.t = P at *
            have z2 : IntKind.u64.wrap ((u2 + s'.w : Nat) : Int) = ((u2 + s'.w : Nat) : Int) := by rw [IntKind.wrap_u64]; omega
            have z4 : IntKind.u64.wrap (P : Int) = (P : Int) := by rw [IntKind.wrap_u64]; omega
            generalize u2 + s'.w = Q at *
            clear hh hall hsum hrr
            rw [Ht] at z5
            go_wp2_with fail
            refine (HP.out _ T0.out).mono ?_
            rintro e w1 ⟨rfl, T2⟩
            have c1 := kc_at HB.out T2.out.bel HQ.out.k1
            go_wp2_with (first
              | (go_at_call 15; (refine (bk_Wasted _ s' _ T2.out.p).mono ?_); rintro e w' ⟨rfl, rfl⟩)
              | (go_at_call 14; (refine (bk_Tokens _ s' _ T2.out.p).mono ?_); rintro e w' ⟨rfl, rfl⟩))
            go_roundw
            case rel => exact ⟨k + 1, u2, s', by go_num, by rw [Ht], rfl, by omega, HC.out, Hr.out, T2.out⟩
            case measure => simp [intOf]; omega
          | false =>
            have HC := Lib.hid (k2 hct)
            have HP : Hid (∀ w, One18 W s w → Calls Try.prog 10 #[.pointer (some ⟨W.heap.size, 0, none⟩), .int .u64 (q.n : Int)] w fun e w' => e = .returned (.bool false) ∧ Hid (One18 W (s.takeS q.n) w')) := Lib.hid (fun w h => (bk_Take _ q.n s w h.p (KB.cons_ok HS.out) (by omega)).mono fun e w' k => ⟨by rw [← hct]; exact k.e, Lib.hid (h.pp k)⟩)
            clear k1 k2 hct
            generalize s.takeS q.n = s' at *
            have hh := HC.out
            have hall := KB.cons_all hh
            have hsum := hh.2.2
            have hrr := Hr.out
            rw [hrr] at hall hsum
            have z1 : (u : Int) + (s'.w : Int) = ((u + s'.w : Nat) : Int) := by omega
            have z3 : ((u + s'.w : Nat) : Int) + (s'.n : Int) = ((r * s'.t : Nat) : Int) := by omega
            have z5 : (r : Int) * (s'.t : Int) = ((r * s'.t : Nat) : Int) := by rw [Int.natCast_mul]
            generalize r * s'.t = P at *
            have z2 : IntKind.u64.wrap ((u + s'.w : Nat) : Int) = ((u + s'.w : Nat) : Int) := by rw [IntKind.wrap_u64]; omega
            have z4 : IntKind.u64.wrap (P : Int) = (P : Int) := by rw [IntKind.wrap_u64]; omega
            generalize u + s'.w = Q at *
            clear hh hall hsum hrr
            rw [Ht] at z5
            go_wp2_with fail
            refine (HP.out _ T0.out).mono ?_
            rintro e w1 ⟨rfl, T2⟩
            have c1 := kc_at HB.out T2.out.bel HQ.out.k1
            go_wp2_with (first
              | (go_at_call 15; (refine (bk_Wasted _ s' _ T2.out.p).mono ?_); rintro e w' ⟨rfl, rfl⟩)
              | (go_at_call 14; (refine (bk_Tokens _ s' _ T2.out.p).mono ?_); rintro e w' ⟨rfl, rfl⟩))
            go_roundw
            case rel => exact ⟨k + 1, u, s', by go_num, by rw [Ht], rfl, by omega, HC.out, Hr.out, T2.out⟩
            case measure => simp [intOf]; omega
        · have hm : (q.k : Int) % 3 = 2 := by omega
          have hm' : Int.tmod (q.k : Int) 3 = 2 := by rw [Int.tmod_eq_emod_of_nonneg (by omega)]; omega
          obtain ⟨k1, Ht, hr2, hle⟩ := KB.cons_waste (x := q.n) HS.out
          have HC := Lib.hid k1
          have Hr : Hid ((s.wasteS q.n).r = r) := Lib.hid (hr2.trans HSr.out)
          have HP : Hid (∀ w, One18 W s w → Calls Try.prog 12 #[.pointer (some ⟨W.heap.size, 0, none⟩), .int .u64 (q.n : Int)] w fun e w' => e = .returned (.int .u64 (s.wasteN q.n : Int)) ∧ Hid (One18 W (s.wasteS q.n) w')) := Lib.hid (fun w h => (bk_Waste _ q.n s w h.p (KB.cons_ok HS.out) (by omega)).mono fun e w' k => ⟨k.e, Lib.hid (h.pp k)⟩)
          have g0 : decide ((q.n : Int) < (s.wasteN q.n : Int)) = false := decide_eq_false (by omega)
          have g1 : decide (q.n < s.wasteN q.n) = false := decide_eq_false (by omega)
          clear hr2 hkk k1 hle
          generalize s.wasteN q.n = n' at *
          generalize s.wasteS q.n = s' at *
          have hh := HC.out
          have hall := KB.cons_all hh
          have hsum := hh.2.2
          have hrr := Hr.out
          rw [hrr] at hall hsum
          have z1 : (u : Int) + (s'.w : Int) = ((u + s'.w : Nat) : Int) := by omega
          have z3 : ((u + s'.w : Nat) : Int) + (s'.n : Int) = ((r * s'.t : Nat) : Int) := by omega
          have z5 : (r : Int) * (s'.t : Int) = ((r * s'.t : Nat) : Int) := by rw [Int.natCast_mul]
          generalize r * s'.t = P at *
          have z2 : IntKind.u64.wrap ((u + s'.w : Nat) : Int) = ((u + s'.w : Nat) : Int) := by rw [IntKind.wrap_u64]; omega
          have z4 : IntKind.u64.wrap (P : Int) = (P : Int) := by rw [IntKind.wrap_u64]; omega
          generalize u + s'.w = Q at *
          clear hh hall hsum hrr
          rw [Ht] at z5
          go_wp2_with fail
          refine (HP.out _ T0.out).mono ?_
          rintro e w1 ⟨rfl, T2⟩
          have c1 := kc_at HB.out T2.out.bel HQ.out.k1
          go_wp2_with (first
            | (go_at_call 15; (refine (bk_Wasted _ s' _ T2.out.p).mono ?_); rintro e w' ⟨rfl, rfl⟩)
            | (go_at_call 14; (refine (bk_Tokens _ s' _ T2.out.p).mono ?_); rintro e w' ⟨rfl, rfl⟩))
          go_roundw
          case rel => exact ⟨k + 1, u, s', by go_num, by rw [Ht], rfl, by omega, HC.out, Hr.out, T2.out⟩
          case measure => simp [intOf]; omega
    · have hlt' : decide (k < l.length) = false := decide_eq_false hlt
      have G0 : Hid (Below W.heap.size W wr) := Lib.hid T0.out.bel
      clear HL T0
      go_wp2_with fail
      refine (bk_To_nil 1 _).mono ?_
      rintro e w1 ⟨rfl, rfl⟩
      go_wp2_with fail
      refine (HA.out _).mono ?_
      rintro e w1 ⟨rfl, hb⟩
      have G1 := Lib.hid (bel_to G0.out hb G0.out.size)
      clear hb
      go_wp2_with fail
      refine (bk_Take_nil 0 _).mono ?_
      rintro e w2 ⟨rfl, hb⟩
      have G2 := Lib.hid (bel_to G1.out hb G1.out.size)
      clear hb
      go_wp2_with (first
        | (go_at_call 12; (refine (bk_Waste_nil 1 _).mono ?_); rintro e w' ⟨rfl, rfl⟩)
        | (go_at_call 14; (refine (bk_Tokens_nil _).mono ?_); rintro e w' ⟨rfl, rfl⟩)
        | (go_at_call 15; (refine (bk_Wasted_nil _).mono ?_); rintro e w' ⟨rfl, rfl⟩))
      go_ret
      exact ⟨rfl, G2.out⟩

theorem BucketConserved_walk (r : Nat) (v : Option Addr) (n c : Nat) (l : List Act18) (b off : Nat) (W : World) (hr : r ≤ 18446744073709551615) (h : l.length = n ∧ InAct18 W v l b off) :
    Calls Try.prog 4 #[.int .u64 (r : Int), .slice v n c] W fun e w' => e = .returned (.bool true) ∧ Below W.heap.size W w' := by
  obtain ⟨rfl, h⟩ := h
  by_cases hf : 200 < l.length ∨ 1048576 < r
  · exact cons18_long v c b off r l W h hf
  · exact cons18_short v c b off r l W h (by omega) (by omega)
end Go.Proofs.Ytbgmkebjehapgaa
