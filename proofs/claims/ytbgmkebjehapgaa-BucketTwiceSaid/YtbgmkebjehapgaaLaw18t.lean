/- BucketTwice over this translation: at once, or in two steps, the same tokens. -/
import Derived.Test.YtbgmkebjehapgaaLaw18m
import Derived.Test.YtbgmkebjehapgaaLaw18a
import Derived.Test.YtbgmkebjehapgaaIn18b
import Derived.Deep.DeepCutAuto
import Derived.Deep.LoopGhost
set_option linter.unusedVariables false
namespace Go.Proofs.Ytbgmkebjehapgaa
open Go.RowKit

/-- The two numbers, and two buckets, of the call's own. -/
structure Duo18 (W : World) (x y : Nat) (s1 s2 : KB) (w : World) : Prop where
  a : Blk w W.heap.size 38 #[.int .u32 (x : Int), .int .u32 (y : Int)]
  p : Blk w (W.heap.size + 1) 43 s1.cells
  m : Blk w (W.heap.size + 2) 43 s2.cells
  bel : Below W.heap.size W w
theorem Duo18.to {W w w' : World} {x y : Nat} {s1 s2 : KB} (h : Duo18 W x y s1 s2 w) (k : Below w.heap.size w w') : Duo18 W x y s1 s2 w' := ⟨h.a.keep k, h.p.keep k, h.m.keep k, bel_to h.bel k h.bel.size⟩
theorem Duo18.pp {W w w' : World} {x y : Nat} {s1 s2 s : KB} {r : Value} {e : Ending} (h : Duo18 W x y s1 s2 w) (k : KPost w (W.heap.size + 1) r s e w') : Duo18 W x y s s2 w' := ⟨h.a.grown k.gr (by simp), k.blk, h.m.grown k.gr (by simp), bel_gr h.bel k.gr h.bel.size (by omega)⟩
theorem Duo18.mm {W w w' : World} {x y : Nat} {s1 s2 s : KB} {r : Value} {e : Ending} (h : Duo18 W x y s1 s2 w) (k : KPost w (W.heap.size + 2) r s e w') : Duo18 W x y s1 s w' := ⟨h.a.grown k.gr (by simp), h.p.grown k.gr (by simp), k.blk, bel_gr h.bel k.gr h.bel.size (by omega)⟩
theorem kd_at {W w : World} {b o j : Nat} {v : Value} (hb : b < W.heap.size) (g : Below W.heap.size W w) (h : W.cell? ⟨b, o + j, none⟩ = some v) : w.cell? ⟨b, o + j, none⟩ = some v := (g.cell (p := ⟨b, _, none⟩) hb).trans h
theorem kd_at0 {W w : World} {b o : Nat} {v : Value} (hb : b < W.heap.size) (g : Below W.heap.size W w) (h : W.cell? ⟨b, o, none⟩ = some v) : w.cell? ⟨b, o, none⟩ = some v := (g.cell (p := ⟨b, _, none⟩) hb).trans h
theorem kd_start (W : World) (x y : Nat) (s : KB) : Duo18 W x y s s (((W.alloc (.cells #[.int .u32 (x : Int), .int .u32 (y : Int)] 38)).alloc (.cells s.cells 43)).alloc (.cells s.cells 43)) :=
  ⟨((Blk.new _ _ _).alloc _).alloc _, (Blk.new1 _ _ _ _).alloc _, by have := Blk.new ((W.alloc (.cells #[.int .u32 (x : Int), .int .u32 (y : Int)] 38)).alloc (.cells s.cells 43)) 43 s.cells; simpa using this, (((Below.refl _ _).alloc (Nat.le_refl _) _).alloc (by simp) _).alloc (by simp; omega) _⟩

theorem tw18_long (v : Option Addr) (c b off r x y : Nat) (l : List Act18) (W : World) (h : InAct18 W v l b off) (hf : 200 < l.length ∨ 1048576 < r) :
    Calls Try.prog 5 #[.int .u64 (r : Int), .slice v l.length c, .agg #[.int .u32 (x : Int), .int .u32 (y : Int)]] W fun e w' => e = .returned (.bool true) ∧ Below W.heap.size W w' := by
  have HA := Lib.hid alive18
  have hm := h.1
  have HB := Lib.hid (al_be W (.cells #[.int .u32 (x : Int), .int .u32 (y : Int)] 38))
  by_cases h2 : 200 < l.length
  · have d0 : decide ((200 : Int) < (l.length : Int)) = true := decide_eq_true (by omega)
    have d1 : decide (200 < l.length) = true := decide_eq_true h2
    clear h hf h2
    go_enter Try.func5, Try.ntmps5
    go_wp2_with (go_at_call 6; refine (HA.out _).mono ?_; rintro e w' ⟨rfl, hb⟩)
    go_ret
    exact ⟨rfl, bel_to HB.out hb HB.out.size⟩
  · have d0 : decide ((200 : Int) < (l.length : Int)) = false := decide_eq_false (by omega)
    have d1 : decide (200 < l.length) = false := decide_eq_false h2
    have d2 : decide ((1048576 : Int) < (r : Int)) = true := decide_eq_true (by omega)
    have d3 : decide (1048576 < r) = true := decide_eq_true (by omega)
    clear h hf h2
    go_enter Try.func5, Try.ntmps5
    go_wp2_with (go_at_call 6; refine (HA.out _).mono ?_; rintro e w' ⟨rfl, hb⟩)
    go_ret
    exact ⟨rfl, bel_to HB.out hb HB.out.size⟩

/-- What holds at each round's head. -/
def Tw18 (W : World) (x y n k : Nat) (s : KB) (w : World) : Prop := k ≤ n ∧ s.few ∧ Duo18 W x y s s w

set_option maxRecDepth 100000 in
set_option maxHeartbeats 8000000 in
theorem tw18_short (v : Option Addr) (c b off r x y : Nat) (l : List Act18) (W : World) (h : InAct18 W v l b off) (hf : l.length ≤ 200) (hr : r ≤ 1048576) (hx : x ≤ 4294967295) (hy : y ≤ 4294967295) :
    Calls Try.prog 5 #[.int .u64 (r : Int), .slice v l.length c, .agg #[.int .u32 (x : Int), .int .u32 (y : Int)]] W fun e w' => e = .returned (.bool true) ∧ Below W.heap.size W w' := by
  have HL := Lib.hid h
  have HA := Lib.hid alive18
  have HR := Lib.hid hr
  have HXY := Lib.hid (And.intro hx hy)
  have hc : decide (200 < l.length) = false := decide_eq_false (by omega)
  have hc' : decide ((200 : Int) < (l.length : Int)) = false := decide_eq_false (by omega)
  have hd : decide (1048576 < r) = false := decide_eq_false (by omega)
  have hd' : decide ((1048576 : Int) < (r : Int)) = false := decide_eq_false (by omega)
  have D0 := Lib.hid (kd_start W x y (KB.start r))
  clear h hr hx hy
  go_enter Try.func5, Try.ntmps5
  go_wp2_with fail
  refine (bk_New r _).mono ?_
  rintro e w0 ⟨rfl, rfl⟩
  go_wp2_with fail
  refine (bk_New r _).mono ?_
  rintro e w0 ⟨rfl, rfl⟩
  go_wp2_with fail
  go_loopw [10, 9] (fun i nw wr => ∃ (k : Nat) (s : KB), i = .int .i64 (k : Int) ∧ nw = .int .u64 (s.t : Int) ∧ Tw18 W x y l.length k s wr) (fun i _ _ => l.length - (intOf i).toNat)
  case atStart =>
    exact ⟨0, KB.start r, rfl, rfl, Nat.zero_le _, KB.few_start HR.out, D0.out⟩
  case round =>
    clear D0
    obtain ⟨k, s, rfl, rfl, hk, hs, ht⟩ := hrel
    have HS := Lib.hid hs
    have T0 := Lib.hid ht
    clear hs ht
    by_cases hlt : k < l.length
    · have hq := HL.out.2.2 k hlt
      have hB := (HL.out.2.1 (by omega)).2
      obtain rfl := (HL.out.2.1 (by omega)).1
      generalize l.getD k default = q at *
      have HB := Lib.hid hB
      have HQ := Lib.hid hq
      have c0 := kd_at0 hB T0.out.bel hq.k0
      have c1 := kd_at hB T0.out.bel hq.k1
      have hk0 := hq.b0
      clear hB hq
      rcases (show q.k % 3 = 0 ∨ q.k % 3 = 1 ∨ q.k % 3 = 2 by omega) with hkk | hkk | hkk
      · have hm : (q.k : Int) % 3 = 0 := by omega
        have hm' : Int.tmod (q.k : Int) 3 = 0 := by rw [Int.tmod_eq_emod_of_nonneg (by omega)]; omega
        clear hkk hk0
        by_cases hbig : 1099511627776 < q.n
        · have d0 : decide ((1099511627776 : Int) < (q.n : Int)) = true := decide_eq_true (by omega)
          clear hbig
          go_wp2_with (go_at_call 6; refine (HA.out _).mono ?_; rintro e w' ⟨rfl, hb⟩)
          go_ret
          exact ⟨rfl, bel_to T0.out.bel hb T0.out.bel.size⟩
        · have hx : q.n ≤ 1099511627776 := by omega
          have d0 : decide ((1099511627776 : Int) < (q.n : Int)) = false := decide_eq_false (by omega)
          have HC := Lib.hid (KB.few_to HS.out hx)
          have HP : Hid (∀ s2 w, Duo18 W x y s s2 w → Calls Try.prog 8 #[.pointer (some ⟨W.heap.size + 1, 0, none⟩), .int .u64 (q.n : Int)] w fun e w' => e = .returned (.tuple #[]) ∧ Hid (Duo18 W x y (s.toS q.n) s2 w')) := Lib.hid (fun s2 w h => (bk_To _ q.n s w h.p (KB.few_ok HS.out) HQ.out.b1).mono fun e w' k => ⟨k.e, Lib.hid (h.pp k)⟩)
          have HM : Hid (∀ s1 w, Duo18 W x y s1 s w → Calls Try.prog 8 #[.pointer (some ⟨W.heap.size + 2, 0, none⟩), .int .u64 (q.n : Int)] w fun e w' => e = .returned (.tuple #[]) ∧ Hid (Duo18 W x y s1 (s.toS q.n) w')) := Lib.hid (fun s1 w h => (bk_To _ q.n s w h.m (KB.few_ok HS.out) HQ.out.b1).mono fun e w' k => ⟨k.e, Lib.hid (h.mm k)⟩)
          generalize s.toS q.n = s' at *
          have hmx : (if s.t < q.n then (q.n : Int) else (s.t : Int)) = (s'.t : Int) := by rw [HC.out.2]; split <;> omega
          clear hbig hx
          go_wp2_with fail
          refine (HP.out _ _ T0.out).mono ?_
          rintro e w1 ⟨rfl, T1⟩
          have c1 := kd_at HB.out T1.out.bel HQ.out.k1
          go_wp2_with fail
          refine (HM.out _ _ T1.out).mono ?_
          rintro e w2 ⟨rfl, T2⟩
          have c1 := kd_at HB.out T2.out.bel HQ.out.k1
          go_wp2_with fail
          go_roundw
          case rel => exact ⟨k + 1, s', by go_num, by first | rfl | rw [hmx], by omega, HC.out.1, T2.out⟩
          case measure => simp [intOf]; omega
      · have hm : (q.k : Int) % 3 = 1 := by omega
        have hm' : Int.tmod (q.k : Int) 3 = 1 := by rw [Int.tmod_eq_emod_of_nonneg (by omega)]; omega
        clear hkk hk0
        have HC := Lib.hid (KB.few_take (x := q.n) HS.out)
        have HP : Hid (∀ s2 w, Duo18 W x y s s2 w → Calls Try.prog 10 #[.pointer (some ⟨W.heap.size + 1, 0, none⟩), .int .u64 (q.n : Int)] w fun e w' => e = .returned (.bool (s.takeB q.n)) ∧ Hid (Duo18 W x y (s.takeS q.n) s2 w')) := Lib.hid (fun s2 w h => (bk_Take _ q.n s w h.p (KB.few_ok HS.out) HQ.out.b1).mono fun e w' k => ⟨k.e, Lib.hid (h.pp k)⟩)
        have HM : Hid (∀ s1 w, Duo18 W x y s1 s w → Calls Try.prog 10 #[.pointer (some ⟨W.heap.size + 2, 0, none⟩), .int .u64 (q.n : Int)] w fun e w' => e = .returned (.bool (s.takeB q.n)) ∧ Hid (Duo18 W x y s1 (s.takeS q.n) w')) := Lib.hid (fun s1 w h => (bk_Take _ q.n s w h.m (KB.few_ok HS.out) HQ.out.b1).mono fun e w' k => ⟨k.e, Lib.hid (h.mm k)⟩)
        have Ht := HC.out.2
        generalize s.takeS q.n = s' at *
        generalize s.takeB q.n = rr at *
        go_wp2_with fail
        refine (HP.out _ _ T0.out).mono ?_
        rintro e w1 ⟨rfl, T1⟩
        have c1 := kd_at HB.out T1.out.bel HQ.out.k1
        go_wp2_with fail
        refine (HM.out _ _ T1.out).mono ?_
        rintro e w2 ⟨rfl, T2⟩
        have c1 := kd_at HB.out T2.out.bel HQ.out.k1
        go_wp2_with fail
        go_roundw
        case rel => exact ⟨k + 1, s', by go_num, by rw [Ht], by omega, HC.out.1, T2.out⟩
        case measure => simp [intOf]; omega
      · have hm : (q.k : Int) % 3 = 2 := by omega
        have hm' : Int.tmod (q.k : Int) 3 = 2 := by rw [Int.tmod_eq_emod_of_nonneg (by omega)]; omega
        clear hkk hk0
        have HC := Lib.hid (KB.few_waste (x := q.n) HS.out)
        have HP : Hid (∀ s2 w, Duo18 W x y s s2 w → Calls Try.prog 12 #[.pointer (some ⟨W.heap.size + 1, 0, none⟩), .int .u64 (q.n : Int)] w fun e w' => e = .returned (.int .u64 (s.wasteN q.n : Int)) ∧ Hid (Duo18 W x y (s.wasteS q.n) s2 w')) := Lib.hid (fun s2 w h => (bk_Waste _ q.n s w h.p (KB.few_ok HS.out) HQ.out.b1).mono fun e w' k => ⟨k.e, Lib.hid (h.pp k)⟩)
        have HM : Hid (∀ s1 w, Duo18 W x y s1 s w → Calls Try.prog 12 #[.pointer (some ⟨W.heap.size + 2, 0, none⟩), .int .u64 (q.n : Int)] w fun e w' => e = .returned (.int .u64 (s.wasteN q.n : Int)) ∧ Hid (Duo18 W x y s1 (s.wasteS q.n) w')) := Lib.hid (fun s1 w h => (bk_Waste _ q.n s w h.m (KB.few_ok HS.out) HQ.out.b1).mono fun e w' k => ⟨k.e, Lib.hid (h.mm k)⟩)
        have Ht := HC.out.2
        generalize s.wasteS q.n = s' at *
        generalize s.wasteN q.n = rr at *
        go_wp2_with fail
        refine (HP.out _ _ T0.out).mono ?_
        rintro e w1 ⟨rfl, T1⟩
        have c1 := kd_at HB.out T1.out.bel HQ.out.k1
        go_wp2_with fail
        refine (HM.out _ _ T1.out).mono ?_
        rintro e w2 ⟨rfl, T2⟩
        have c1 := kd_at HB.out T2.out.bel HQ.out.k1
        go_wp2_with fail
        go_roundw
        case rel => exact ⟨k + 1, s', by go_num, by rw [Ht], by omega, HC.out.1, T2.out⟩
        case measure => simp [intOf]; omega
    · have hlt' : decide (k < l.length) = false := decide_eq_false hlt
      have hlt2 : decide ((k : Int) < (l.length : Int)) = false := decide_eq_false (by omega)
      have hx := HXY.out.1
      have hy := HXY.out.2
      have htt := HS.out.2.1
      have HTw := Lib.hid (KB.twice HS.out hx hy)
      have HO := Lib.hid (KB.few_ok HS.out)
      have hO1 : Hid ((s.toS (s.t + x)).ok) := Lib.hid (KB.to_ok HO.out (by omega))
      have v0 : IntKind.u64.wrap (x : Int) = (x : Int) := by rw [IntKind.wrap_u64]; omega
      have v1 : IntKind.u64.wrap (y : Int) = (y : Int) := by rw [IntKind.wrap_u64]; omega
      have z1 : (s.t : Int) + (x : Int) = ((s.t + x : Nat) : Int) := by omega
      have z2 : IntKind.u64.wrap ((s.t + x : Nat) : Int) = ((s.t + x : Nat) : Int) := by rw [IntKind.wrap_u64]; omega
      have z3 : ((s.t + x : Nat) : Int) + (y : Int) = ((s.t + x + y : Nat) : Int) := by omega
      have z4 : IntKind.u64.wrap ((s.t + x + y : Nat) : Int) = ((s.t + x + y : Nat) : Int) := by rw [IntKind.wrap_u64]; omega
      have HP : Hid (∀ s2 w, Duo18 W x y s s2 w → Calls Try.prog 8 #[.pointer (some ⟨W.heap.size + 1, 0, none⟩), .int .u64 ((s.t + x + y : Nat) : Int)] w fun e w' => e = .returned (.tuple #[]) ∧ Hid (Duo18 W x y (s.toS (s.t + x + y)) s2 w')) := Lib.hid (fun s2 w h => (bk_To _ _ s w h.p HO.out (by omega)).mono fun e w' k => ⟨k.e, Lib.hid (h.pp k)⟩)
      have HM : Hid (∀ s1 w, Duo18 W x y s1 s w → Calls Try.prog 8 #[.pointer (some ⟨W.heap.size + 2, 0, none⟩), .int .u64 ((s.t + x : Nat) : Int)] w fun e w' => e = .returned (.tuple #[]) ∧ Hid (Duo18 W x y s1 (s.toS (s.t + x)) w')) := Lib.hid (fun s1 w h => (bk_To _ _ s w h.m HO.out (by omega)).mono fun e w' k => ⟨k.e, Lib.hid (h.mm k)⟩)
      have HN : Hid (∀ s1 w, Duo18 W x y s1 (s.toS (s.t + x)) w → Calls Try.prog 8 #[.pointer (some ⟨W.heap.size + 2, 0, none⟩), .int .u64 ((s.t + x + y : Nat) : Int)] w fun e w' => e = .returned (.tuple #[]) ∧ Hid (Duo18 W x y s1 (s.toS (s.t + x + y)) w')) := Lib.hid (fun s1 w h => (bk_To _ _ (s.toS (s.t + x)) w h.m hO1.out (by omega)).mono fun e w' k => ⟨k.e, Lib.hid (by have := h.mm k; rwa [HTw.out] at this)⟩)
      have a0 := T0.out.a.cell (i := 0) (v := .int .u32 (x : Int)) rfl
      have a1 := T0.out.a.cell (i := 1) (v := .int .u32 (y : Int)) rfl
      clear hx hy htt HTw hO1 HO hlt HL
      generalize s.t + x + y = t2 at *
      generalize s.t + x = t1 at *
      generalize s.toS t1 = s1 at *
      generalize s.toS t2 = s2 at *
      go_wp2_with fail
      refine (HP.out _ _ T0.out).mono ?_
      rintro e w1 ⟨rfl, T1⟩
      have a0 := T1.out.a.cell (i := 0) (v := .int .u32 (x : Int)) rfl
      have a1 := T1.out.a.cell (i := 1) (v := .int .u32 (y : Int)) rfl
      go_wp2_with fail
      refine (HM.out _ _ T1.out).mono ?_
      rintro e w2 ⟨rfl, T2⟩
      have a0 := T2.out.a.cell (i := 0) (v := .int .u32 (x : Int)) rfl
      have a1 := T2.out.a.cell (i := 1) (v := .int .u32 (y : Int)) rfl
      go_wp2_with fail
      refine (HN.out _ _ T2.out).mono ?_
      rintro e w3 ⟨rfl, T3⟩
      go_wp2_with fail
      refine (HA.out _).mono ?_
      rintro e w4 ⟨rfl, hb⟩
      have T4 := Lib.hid (T3.out.to hb)
      clear hb
      go_wp2_with fail
      refine (bk_Tokens _ s2 _ T4.out.p).mono ?_
      rintro e w5 ⟨rfl, rfl⟩
      go_wp2_with fail
      refine (bk_Tokens _ s2 _ T4.out.m).mono ?_
      rintro e w5 ⟨rfl, rfl⟩
      go_wp2_with fail
      refine (bk_Wasted _ s2 _ T4.out.p).mono ?_
      rintro e w5 ⟨rfl, rfl⟩
      go_wp2_with fail
      refine (bk_Wasted _ s2 _ T4.out.m).mono ?_
      rintro e w5 ⟨rfl, rfl⟩
      go_wp2_with fail
      go_ret
      exact ⟨rfl, T4.out.bel⟩

theorem BucketTwice_walk (r : Nat) (v : Option Addr) (n c x y : Nat) (l : List Act18) (b off : Nat) (W : World) (hr : r ≤ 18446744073709551615) (h : l.length = n ∧ InAct18 W v l b off) (hxy : x ≤ 4294967295 ∧ y ≤ 4294967295) :
    Calls Try.prog 5 #[.int .u64 (r : Int), .slice v n c, .agg #[.int .u32 (x : Int), .int .u32 (y : Int)]] W fun e w' => e = .returned (.bool true) ∧ Below W.heap.size W w' := by
  obtain ⟨rfl, h⟩ := h
  by_cases hf : 200 < l.length ∨ 1048576 < r
  · exact tw18_long v c b off r x y l W h hf
  · exact tw18_short v c b off r x y l W h (by omega) (by omega) hxy.1 hxy.2
end Go.Proofs.Ytbgmkebjehapgaa
