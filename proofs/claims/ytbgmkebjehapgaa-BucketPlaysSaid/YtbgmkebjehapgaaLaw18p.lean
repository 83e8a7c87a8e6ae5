/- BucketPlays over this translation: the bucket answers as the document's bucket does, act by act. -/
import Derived.Test.YtbgmkebjehapgaaRefB
import Derived.Test.YtbgmkebjehapgaaLaw18a
import Derived.Test.YtbgmkebjehapgaaIn18
import Derived.Deep.DeepCutAuto
import Derived.Deep.LoopGhost
set_option linter.unusedVariables false
namespace Go.Proofs.Ytbgmkebjehapgaa
open Go.RowKit

/-- Two buckets, one of them the document's. -/
structure Two18 (W : World) (s1 s2 : KB) (w : World) : Prop where
  p : Blk w W.heap.size 43 s1.cells
  m : Blk w (W.heap.size + 1) 29 s2.rcells
  bel : Below W.heap.size W w
theorem Two18.to {W w w' : World} {s1 s2 : KB} (h : Two18 W s1 s2 w) (k : Below w.heap.size w w') : Two18 W s1 s2 w' := ⟨h.p.keep k, h.m.keep k, bel_to h.bel k h.bel.size⟩
theorem Two18.pp {W w w' : World} {s1 s2 s : KB} {r : Value} {e : Ending} (h : Two18 W s1 s2 w) (k : KPost w W.heap.size r s e w') : Two18 W s s2 w' := ⟨k.blk, h.m.grown k.gr (by simp), bel_gr h.bel k.gr h.bel.size (Nat.le_refl _)⟩
theorem Two18.mm {W w w' : World} {s1 s2 s : KB} {r : Value} {e : Ending} (h : Two18 W s1 s2 w) (hr : s.r = s2.r) (k : KQ w (W.heap.size + 1) 29 s2.rcells 0 r s e w') : Two18 W s1 s w' := ⟨h.p.grown k.gr (by simp), by rw [← KB.rput hr]; exact k.blk, bel_gr h.bel k.gr h.bel.size (Nat.le_succ _)⟩

theorem plays18_long (v : Option Addr) (c b off r : Nat) (l : List Act18) (W : World) (h : InAct18 W v l b off) (hf : 200 < l.length) :
    Calls Try.prog 3 #[.int .u64 (r : Int), .slice v l.length c] W fun e w' => e = .returned (.bool true) ∧ Below W.heap.size W w' := by
  have HA := Lib.hid (alive18 W)
  have hm := h.1
  have d0 : decide ((200 : Int) < (l.length : Int)) = true := decide_eq_true (by omega)
  have d1 : decide (200 < l.length) = true := decide_eq_true hf
  clear h hf
  go_enter Try.func3, Try.ntmps3
  go_wp2_with (go_at_call 6; refine (HA.out).mono ?_; rintro e w' ⟨rfl, hb⟩)
  go_ret
  exact ⟨rfl, hb⟩

/-- What holds of the two buckets at each round's head. -/
def Play18 (W : World) (n k : Nat) (s : KB) (w : World) : Prop := k ≤ n ∧ s.ok ∧ Two18 W s s w

/-- The act's cells, whatever the call has made since. -/
theorem kt_rule {W : World} {b o j : Nat} {v : Value} (hb : b < W.heap.size) (h : W.cell? ⟨b, o + j, none⟩ = some v) : ∀ w, Hid (Below W.heap.size W w) → w.cell? ⟨b, o + j, none⟩ = some v := fun w k => (k.out.cell (p := ⟨b, _, none⟩) hb).trans h
theorem kt_rule0 {W : World} {b o : Nat} {v : Value} (hb : b < W.heap.size) (h : W.cell? ⟨b, o, none⟩ = some v) : ∀ w, Hid (Below W.heap.size W w) → w.cell? ⟨b, o, none⟩ = some v := fun w k => (k.out.cell (p := ⟨b, _, none⟩) hb).trans h

set_option maxRecDepth 100000 in
set_option maxHeartbeats 4000000 in
theorem plays18_short (v : Option Addr) (c b off r : Nat) (l : List Act18) (W : World) (h : InAct18 W v l b off) (hf : l.length ≤ 200) (hr : r ≤ 18446744073709551615) :
    Calls Try.prog 3 #[.int .u64 (r : Int), .slice v l.length c] W fun e w' => e = .returned (.bool true) ∧ Below W.heap.size W w' := by
  have HL := Lib.hid h
  have HA := Lib.hid alive18
  have H0 := Lib.hid (KB.start_ok hr)
  have hc : decide (200 < l.length) = false := decide_eq_false (by omega)
  clear h
  go_enter Try.func3, Try.ntmps3
  go_wp2_with (go_at_call 7; refine (bk_New r _).mono ?_; rintro e w0 ⟨rfl, rfl⟩)
  go_loopw [7] (fun i wr => ∃ (k : Nat) (s : KB), i = .int .i64 (k : Int) ∧ Play18 W l.length k s wr) (fun i _ => l.length - (intOf i).toNat)
  case atStart =>
    exact ⟨0, KB.start r, rfl, Nat.zero_le _, H0.out, (Blk.new _ _ _).alloc _, Blk.new1 _ _ _ _, ((Below.refl _ _).alloc (Nat.le_refl _) _).alloc (by simp) _⟩
  case round =>
    obtain ⟨k, s, rfl, hk, hs, ht⟩ := hrel
    have HS := Lib.hid hs
    have T0 := Lib.hid ht
    have G0 : Hid (Below W.heap.size W wr) := Lib.hid ht.bel
    clear hs ht H0
    by_cases hlt : k < l.length
    · have hq := HL.out.2.2 k hlt
      have HB : Hid (b < W.heap.size) := Lib.hid (HL.out.2.1 (by omega)).2
      obtain rfl := (HL.out.2.1 (by omega)).1
      generalize l.getD k default = q at *
      have hk0 := hq.b0
      have C0 := kt_rule0 HB.out hq.k0
      have C1 := kt_rule HB.out hq.k1
      rcases (show q.k % 3 = 0 ∨ q.k % 3 = 1 ∨ q.k % 3 = 2 by omega) with hkk | hkk | hkk
      · have hr : (q.k : Int) % 3 = 0 := by omega
        have hr' : Int.tmod (q.k : Int) 3 = 0 := by rw [Int.tmod_eq_emod_of_nonneg (by omega)]; omega
        have HP : Hid (∀ s2 w, Two18 W s s2 w → Calls Try.prog 8 #[.pointer (some ⟨W.heap.size, 0, none⟩), .int .u64 (q.n : Int)] w fun e w' => e = .returned (.tuple #[]) ∧ Hid (Two18 W (s.toS q.n) s2 w') ∧ Hid (Below W.heap.size W w')) := Lib.hid (fun s2 w h => (bk_To _ q.n s w h.p HS.out hq.b1).mono fun e w' k => ⟨k.e, Lib.hid (h.pp k), Lib.hid (h.pp k).bel⟩)
        have HQ : Hid (∀ s1 w, Two18 W s1 s w → Calls Try.prog 9 #[.pointer (some ⟨W.heap.size + 1, 0, none⟩), .int .u64 (q.n : Int)] w fun e w' => e = .returned (.tuple #[]) ∧ Hid (Two18 W s1 (s.toS q.n) w') ∧ Hid (Below W.heap.size W w')) := Lib.hid (fun s1 w h => (rk_To _ 0 q.n _ _ s w h.m s.rat HS.out hq.b1).mono fun e w' k => ⟨k.e, Lib.hid (h.mm (s.to_r _) k), Lib.hid (h.mm (s.to_r _) k).bel⟩)
        have HO := Lib.hid (KB.to_ok HS.out hq.b1)
        clear hkk hk0 hq
        generalize s.toS q.n = s' at *
        go_wp2_with fail
        refine (HP.out _ _ T0.out).mono ?_
        rintro e w1 ⟨rfl, T1, G1⟩
        go_wp2_with fail
        refine (HQ.out _ _ T1.out).mono ?_
        rintro e w2 ⟨rfl, T3, G2⟩
        clear C0 C1 HP HQ T0 T1 G0 G1
        go_wp2_with fail
        have T4 := Lib.hid (T3.out.to ((Drawn.drew _).below _))
        have M1 : ∀ w, Hid (Two18 W s' s' w) → w.cell? ⟨W.heap.size + 1, 2, none⟩ = some (.int .u64 (s'.n : Int)) := fun w h => h.out.m.cell rfl
        have M2 : ∀ w, Hid (Two18 W s' s' w) → w.cell? ⟨W.heap.size + 1, 3, none⟩ = some (.int .u64 (s'.w : Int)) := fun w h => h.out.m.cell rfl
        go_region_held3 (fun w' => Hid (Two18 W s' s' w'))
          (first | exact T4 | assumption)
          (first
            | (go_at_call 14; (refine (bk_Tokens _ s' _ (Hid.out (by assumption) : Two18 W s' s' _).p).mono ?_); rintro e w' ⟨rfl, rfl⟩)
            | (go_at_call 15; (refine (bk_Wasted _ s' _ (Hid.out (by assumption) : Two18 W s' s' _).p).mono ?_); rintro e w' ⟨rfl, rfl⟩))
        all_goals
          have T5 := (‹Hid (Two18 W s' s' _)›)
          clear T4 M1 M2
          go_wp2_with fail
          go_roundw
          case rel => exact ⟨k + 1, s', by go_num, by omega, HO.out, T5.out⟩
          case measure => simp [intOf]; omega
      · have hr : (q.k : Int) % 3 = 1 := by omega
        have hr' : Int.tmod (q.k : Int) 3 = 1 := by rw [Int.tmod_eq_emod_of_nonneg (by omega)]; omega
        have HP : Hid (∀ s2 w, Two18 W s s2 w → Calls Try.prog 10 #[.pointer (some ⟨W.heap.size, 0, none⟩), .int .u64 (q.n : Int)] w fun e w' => e = .returned (.bool (s.takeB q.n)) ∧ Hid (Two18 W (s.takeS q.n) s2 w') ∧ Hid (Below W.heap.size W w')) := Lib.hid (fun s2 w h => (bk_Take _ q.n s w h.p HS.out hq.b1).mono fun e w' k => ⟨k.e, Lib.hid (h.pp k), Lib.hid (h.pp k).bel⟩)
        have HQ : Hid (∀ s1 w, Two18 W s1 s w → Calls Try.prog 11 #[.pointer (some ⟨W.heap.size + 1, 0, none⟩), .int .u64 (q.n : Int)] w fun e w' => e = .returned (.bool (s.takeB q.n)) ∧ Hid (Two18 W s1 (s.takeS q.n) w') ∧ Hid (Below W.heap.size W w')) := Lib.hid (fun s1 w h => (rk_Take _ 0 q.n _ _ s w h.m s.rat HS.out hq.b1).mono fun e w' k => ⟨k.e, Lib.hid (h.mm (s.take_r _) k), Lib.hid (h.mm (s.take_r _) k).bel⟩)
        have HO := Lib.hid (KB.take_ok HS.out q.n)
        clear hkk hk0 hq
        generalize s.takeS q.n = s' at *
        generalize s.takeB q.n = rr at *
        go_wp2_with fail
        have T0' := Lib.hid (T0.out.to ((Drawn.drew _).below _))
        have G0' : Hid (Below W.heap.size W wr.drew) := Lib.hid T0'.out.bel
        go_region_held3 (fun w' => Hid (Below W.heap.size W w'))
          (first | exact G0' | assumption)
          (first
            | (go_at_call 10; (refine (HP.out _ _ (Hid.out (by assumption))).mono ?_); rintro e w' ⟨rfl, hT, hB⟩)
            | (go_at_call 11; (refine (HQ.out _ _ (Hid.out (by assumption))).mono ?_); rintro e w' ⟨rfl, hT, hB⟩))
        all_goals
          have T3 := (‹Hid (Two18 W s' s' _)›)
          clear C0 C1 HP HQ T0 T0' G0 G0'
          go_wp2_with fail
          have T4 := Lib.hid (T3.out.to ((Drawn.drew _).below _))
          have M1 : ∀ w, Hid (Two18 W s' s' w) → w.cell? ⟨W.heap.size + 1, 2, none⟩ = some (.int .u64 (s'.n : Int)) := fun w h => h.out.m.cell rfl
          have M2 : ∀ w, Hid (Two18 W s' s' w) → w.cell? ⟨W.heap.size + 1, 3, none⟩ = some (.int .u64 (s'.w : Int)) := fun w h => h.out.m.cell rfl
          go_region_held3 (fun w' => Hid (Two18 W s' s' w'))
            (first | exact T4 | assumption)
            (first
              | (go_at_call 14; (refine (bk_Tokens _ s' _ (Hid.out (by assumption) : Two18 W s' s' _).p).mono ?_); rintro e w' ⟨rfl, rfl⟩)
              | (go_at_call 15; (refine (bk_Wasted _ s' _ (Hid.out (by assumption) : Two18 W s' s' _).p).mono ?_); rintro e w' ⟨rfl, rfl⟩))
          all_goals
            have T5 := (‹Hid (Two18 W s' s' _)›)
            clear T4 M1 M2
            go_wp2_with fail
            go_roundw
            case rel => exact ⟨k + 1, s', by go_num, by omega, HO.out, T5.out⟩
            case measure => simp [intOf]; omega
      · have hr : (q.k : Int) % 3 = 2 := by omega
        have hr' : Int.tmod (q.k : Int) 3 = 2 := by rw [Int.tmod_eq_emod_of_nonneg (by omega)]; omega
        have HP : Hid (∀ s2 w, Two18 W s s2 w → Calls Try.prog 12 #[.pointer (some ⟨W.heap.size, 0, none⟩), .int .u64 (q.n : Int)] w fun e w' => e = .returned (.int .u64 (s.wasteN q.n : Int)) ∧ Hid (Two18 W (s.wasteS q.n) s2 w') ∧ Hid (Below W.heap.size W w')) := Lib.hid (fun s2 w h => (bk_Waste _ q.n s w h.p HS.out hq.b1).mono fun e w' k => ⟨k.e, Lib.hid (h.pp k), Lib.hid (h.pp k).bel⟩)
        have HQ : Hid (∀ s1 w, Two18 W s1 s w → Calls Try.prog 13 #[.pointer (some ⟨W.heap.size + 1, 0, none⟩), .int .u64 (q.n : Int)] w fun e w' => e = .returned (.int .u64 (s.wasteN q.n : Int)) ∧ Hid (Two18 W s1 (s.wasteS q.n) w') ∧ Hid (Below W.heap.size W w')) := Lib.hid (fun s1 w h => (rk_Waste _ 0 q.n _ _ s w h.m s.rat HS.out hq.b1).mono fun e w' k => ⟨k.e, Lib.hid (h.mm ((show (s.wasteS q.n).r = s.r from rfl)) k), Lib.hid (h.mm ((show (s.wasteS q.n).r = s.r from rfl)) k).bel⟩)
        have HO := Lib.hid (KB.waste_ok HS.out q.n)
        clear hkk hk0 hq
        generalize s.wasteS q.n = s' at *
        generalize s.wasteN q.n = rr at *
        go_wp2_with fail
        have T0' := Lib.hid (T0.out.to ((Drawn.drew _).below _))
        have G0' : Hid (Below W.heap.size W wr.drew) := Lib.hid T0'.out.bel
        go_region_held3 (fun w' => Hid (Below W.heap.size W w'))
          (first | exact G0' | assumption)
          (first
            | (go_at_call 12; (refine (HP.out _ _ (Hid.out (by assumption))).mono ?_); rintro e w' ⟨rfl, hT, hB⟩)
            | (go_at_call 13; (refine (HQ.out _ _ (Hid.out (by assumption))).mono ?_); rintro e w' ⟨rfl, hT, hB⟩))
        all_goals
          have T3 := (‹Hid (Two18 W s' s' _)›)
          clear C0 C1 HP HQ T0 T0' G0 G0'
          go_wp2_with fail
          have T4 := Lib.hid (T3.out.to ((Drawn.drew _).below _))
          have M1 : ∀ w, Hid (Two18 W s' s' w) → w.cell? ⟨W.heap.size + 1, 2, none⟩ = some (.int .u64 (s'.n : Int)) := fun w h => h.out.m.cell rfl
          have M2 : ∀ w, Hid (Two18 W s' s' w) → w.cell? ⟨W.heap.size + 1, 3, none⟩ = some (.int .u64 (s'.w : Int)) := fun w h => h.out.m.cell rfl
          go_region_held3 (fun w' => Hid (Two18 W s' s' w'))
            (first | exact T4 | assumption)
            (first
              | (go_at_call 14; (refine (bk_Tokens _ s' _ (Hid.out (by assumption) : Two18 W s' s' _).p).mono ?_); rintro e w' ⟨rfl, rfl⟩)
              | (go_at_call 15; (refine (bk_Wasted _ s' _ (Hid.out (by assumption) : Two18 W s' s' _).p).mono ?_); rintro e w' ⟨rfl, rfl⟩))
          all_goals
            have T5 := (‹Hid (Two18 W s' s' _)›)
            clear T4 M1 M2
            go_wp2_with fail
            go_roundw
            case rel => exact ⟨k + 1, s', by go_num, by omega, HO.out, T5.out⟩
            case measure => simp [intOf]; omega
    · have hlt' : decide (k < l.length) = false := decide_eq_false hlt
      go_wp2_with (go_at_call 6; refine (HA.out _).mono ?_; rintro e w' ⟨rfl, hb⟩)
      go_ret
      exact ⟨rfl, bel_to G0.out hb G0.out.size⟩

theorem BucketPlays_walk (r : Nat) (v : Option Addr) (n c : Nat) (l : List Act18) (b off : Nat) (W : World) (hr : r ≤ 18446744073709551615) (h : l.length = n ∧ InAct18 W v l b off) :
    Calls Try.prog 3 #[.int .u64 (r : Int), .slice v n c] W fun e w' => e = .returned (.bool true) ∧ Below W.heap.size W w' := by
  obtain ⟨rfl, h⟩ := h
  by_cases hf : 200 < l.length
  · exact plays18_long v c b off r l W h hf
  · exact plays18_short v c b off r l W h (by omega) hr
end Go.Proofs.Ytbgmkebjehapgaa
