/- PacerPlays over this translation: the pacer answers as the document's pacer does, act by act. -/
import Derived.Test.YtafmfkgaijnfbaaRefP
import Derived.Test.YtafmfkgaijnfbaaLaw16a
import Derived.Test.YtafmfkgaijnfbaaIn16
import Derived.Deep.DeepCutAuto
import Derived.Deep.LoopGhost
set_option linter.unusedVariables false
namespace Go.Proofs.Ytafmfkgaijnfbaa
open Go.RowKit

/-- Two pacers, one of them the document's. -/
structure Two (W : World) (s1 s2 : PS) (w : World) : Prop where
  p : Blk w W.heap.size 47 s1.cells
  m : Blk w (W.heap.size + 1) 29 s2.rcells
  bel : Below W.heap.size W w
theorem Two.to {W w w' : World} {s1 s2 : PS} (h : Two W s1 s2 w) (k : Below w.heap.size w w') : Two W s1 s2 w' := ⟨h.p.keep k, h.m.keep k, bel_to h.bel k h.bel.size⟩
theorem Two.pp {W w w' : World} {s1 s2 s : PS} {r : Value} {e : Ending} (h : Two W s1 s2 w) (k : PPost w W.heap.size r s e w') : Two W s s2 w' := ⟨k.blk, h.m.grown k.gr (by simp), bel_gr h.bel k.gr h.bel.size (Nat.le_refl _)⟩
theorem Two.mm {W w w' : World} {s1 s2 s : PS} {r : Value} {e : Ending} (h : Two W s1 s2 w) (k : QPost w (W.heap.size + 1) r s e w') : Two W s1 s w' := ⟨h.p.grown k.gr (by simp), k.blk, bel_gr h.bel k.gr h.bel.size (Nat.le_succ _)⟩

theorem plays16_long (v : Option Addr) (c b off look : Nat) (l : List Act16) (W : World) (h : InAct16 W v l b off) (hf : 200 < l.length) :
    Calls Try.prog 3 #[.slice v l.length c, .int .u64 (look : Int)] W fun e w' => e = .returned (.bool true) ∧ Below W.heap.size W w' := by
  have HA := Lib.hid (alive16 W)
  have hm := h.1
  have d0 : decide ((200 : Int) < (l.length : Int)) = true := decide_eq_true (by omega)
  have d1 : decide (200 < l.length) = true := decide_eq_true hf
  clear h hf
  go_enter Try.func3, Try.ntmps3
  go_wp2_with (go_at_call 7; refine (HA.out).mono ?_; rintro e w' ⟨rfl, hb⟩)
  go_ret
  exact ⟨rfl, hb⟩

/-- What holds of the two pacers at each round's head. -/
def Play16 (W : World) (n k : Nat) (s : PS) (w : World) : Prop := k ≤ n ∧ s.ok ∧ Two W s s w

/-- The act's cells, whatever the call has made since. -/
theorem act_rule {W : World} {b o j : Nat} {v : Value} (hb : b < W.heap.size) (h : W.cell? ⟨b, o + j, none⟩ = some v) : ∀ w, Hid (Below W.heap.size W w) → w.cell? ⟨b, o + j, none⟩ = some v := fun w k => (k.out.cell (p := ⟨b, _, none⟩) hb).trans h
theorem act_rule0 {W : World} {b o : Nat} {v : Value} (hb : b < W.heap.size) (h : W.cell? ⟨b, o, none⟩ = some v) : ∀ w, Hid (Below W.heap.size W w) → w.cell? ⟨b, o, none⟩ = some v := fun w k => (k.out.cell (p := ⟨b, _, none⟩) hb).trans h

set_option maxRecDepth 100000 in
set_option maxHeartbeats 4000000 in
theorem plays16_short (v : Option Addr) (c b off look : Nat) (l : List Act16) (W : World) (h : InAct16 W v l b off) (hf : l.length ≤ 200) (hlook : look ≤ 18446744073709551615) :
    Calls Try.prog 3 #[.slice v l.length c, .int .u64 (look : Int)] W fun e w' => e = .returned (.bool true) ∧ Below W.heap.size W w' := by
  have HL := Lib.hid h
  have HA := Lib.hid alive16
  have hc : decide (200 < l.length) = false := decide_eq_false (by omega)
  clear h
  go_enter Try.func3, Try.ntmps3
  go_wp2_with (go_at_call 8; refine (pc_New _).mono ?_; rintro e w0 ⟨rfl, rfl⟩)
  go_loopw [7] (fun i wr => ∃ (k : Nat) (s : PS), i = .int .i64 (k : Int) ∧ Play16 W l.length k s wr) (fun i _ => l.length - (intOf i).toNat)
  case atStart =>
    exact ⟨0, PS.zero, rfl, Nat.zero_le _, PS.zero_ok, (Blk.new _ _ _).alloc _, Blk.new1 _ _ _ _, ((Below.refl _ _).alloc (Nat.le_refl _) _).alloc (by simp) _⟩
  case round =>
    obtain ⟨k, s, rfl, hk, hs, ht⟩ := hrel
    have HS := Lib.hid hs
    have T0 := Lib.hid ht
    have G0 : Hid (Below W.heap.size W wr) := Lib.hid ht.bel
    clear hs ht
    by_cases hlt : k < l.length
    · have hq := HL.out.2.2 k hlt
      have HB : Hid (b < W.heap.size) := Lib.hid (HL.out.2.1 (by omega)).2
      obtain rfl := (HL.out.2.1 (by omega)).1
      generalize l.getD k default = q at *
      have hk0 := hq.b0
      rcases (show q.k % 3 = 0 ∨ q.k % 3 = 1 ∨ q.k % 3 = 2 by omega) with hkk | hkk | hkk
      · have hr : (q.k : Int) % 3 = 0 := by omega
        have hr' : Int.tmod (q.k : Int) 3 = 0 := by rw [Int.tmod_eq_emod_of_nonneg (by omega)]; omega
        have HP : Hid (∀ s2 w, Two W s s2 w → Calls Try.prog 9 #[.pointer (some ⟨W.heap.size, 0, none⟩), .int .u64 (q.n : Int), .int .u64 (q.r : Int), .int .u64 (q.q : Int)] w fun e w' => e = .returned (.int .i64 (s.tickE q.n)) ∧ Hid (Two W (s.tickS q.n q.r q.q) s2 w') ∧ Hid (Below W.heap.size W w')) := Lib.hid (fun s2 w h => (pc_Tick _ q.n q.r q.q s w h.p HS.out hq.b1 hq.b2 hq.b3).mono fun e w' k => ⟨k.e, Lib.hid (h.pp k), Lib.hid (h.pp k).bel⟩)
        have HQ : Hid (∀ s1 w, Two W s1 s w → Calls Try.prog 10 #[.pointer (some ⟨W.heap.size + 1, 0, none⟩), .int .u64 (q.n : Int), .int .u64 (q.r : Int), .int .u64 (q.q : Int)] w fun e w' => e = .returned (.int .i64 (s.tickE q.n)) ∧ Hid (Two W s1 (s.tickS q.n q.r q.q) w') ∧ Hid (Below W.heap.size W w')) := Lib.hid (fun s1 w h => (rq_Tick _ q.n q.r q.q s w h.m HS.out hq.b1 hq.b2 hq.b3).mono fun e w' k => ⟨k.e, Lib.hid (h.mm k), Lib.hid (h.mm k).bel⟩)
        have HO := Lib.hid (PS.tick_ok HS.out hq.b1 hq.b2 hq.b3)
        have C0 := act_rule0 HB.out hq.k0
        have C1 := act_rule HB.out hq.k1
        have C2 := act_rule HB.out hq.k2
        have C3 := act_rule HB.out hq.k3
        clear hkk hk0 hq
        generalize s.tickE q.n = r at *
        generalize s.tickS q.n q.r q.q = s' at *
        go_wp2_with fail
        have T0' := Lib.hid (T0.out.to ((Drawn.drew _).below _))
        have G0' : Hid (Below W.heap.size W wr.drew) := Lib.hid T0'.out.bel
        go_region_held3 (fun w' => Hid (Below W.heap.size W w'))
          (first | exact G0' | assumption)
          (first
            | (go_at_call 9; (refine (HP.out _ _ (Hid.out (by assumption))).mono ?_); rintro e w' ⟨rfl, hT, hB⟩)
            | (go_at_call 10; (refine (HQ.out _ _ (Hid.out (by assumption))).mono ?_); rintro e w' ⟨rfl, hT, hB⟩))
        all_goals
          have T1 := (‹Hid (Two W s' s' _)›)
          clear C0 C1 C2 C3 HP HQ T0 T0' G0 G0'
          go_wp2_with fail
          refine (pc_Next _ look s' _ T1.out.p HO.out hlook).mono ?_
          rintro e w3 ⟨rfl, hb⟩
          have T2 := Lib.hid (T1.out.to hb)
          clear hb
          go_wp2_with fail
          refine (rq_Next _ look s' _ T2.out.m HO.out hlook).mono ?_
          rintro e w4 ⟨rfl, hb⟩
          have T3 := Lib.hid (T2.out.to hb)
          clear hb T1 T2
          generalize s'.nextT look = nt at *
          generalize s'.nextB look = nb at *
          go_wp2_with fail
          have T4 := Lib.hid (T3.out.to ((Drawn.drew _).below _))
          have M1 : ∀ w, Hid (Two W s' s' w) → w.cell? ⟨W.heap.size + 1, 1, none⟩ = some (.int .u64 (s'.s : Int)) := fun w h => h.out.m.cell rfl
          go_region_held3 (fun w' => Hid (Two W s' s' w'))
            (first | exact T4 | assumption)
            (first | (go_at_call 17; (refine (pc_Credit _ s' _ (Hid.out (by assumption) : Two W s' s' _).p).mono ?_); rintro e w' ⟨rfl, rfl⟩))
          all_goals
            have T5 := (‹Hid (Two W s' s' _)›)
            clear T4 M1
            go_wp2_with fail
            go_roundw
            case rel => exact ⟨k + 1, s', by go_num, by omega, HO.out, T5.out⟩
            case measure => simp [intOf]; omega
      · have hr : (q.k : Int) % 3 = 1 := by omega
        have hr' : Int.tmod (q.k : Int) 3 = 1 := by rw [Int.tmod_eq_emod_of_nonneg (by omega)]; omega
        have HP : Hid (∀ s2 w, Two W s s2 w → Calls Try.prog 11 #[.pointer (some ⟨W.heap.size, 0, none⟩), .int .u64 (q.x : Int)] w fun e w' => e = .returned (.bool (s.takeB q.x)) ∧ Hid (Two W (s.takeS q.x) s2 w') ∧ Hid (Below W.heap.size W w')) := Lib.hid (fun s2 w h => (pc_Take _ q.x s w h.p HS.out hq.b4).mono fun e w' k => ⟨k.e, Lib.hid (h.pp k), Lib.hid (h.pp k).bel⟩)
        have HQ : Hid (∀ s1 w, Two W s1 s w → Calls Try.prog 12 #[.pointer (some ⟨W.heap.size + 1, 0, none⟩), .int .u64 (q.x : Int)] w fun e w' => e = .returned (.bool (s.takeB q.x)) ∧ Hid (Two W s1 (s.takeS q.x) w') ∧ Hid (Below W.heap.size W w')) := Lib.hid (fun s1 w h => (rq_Take _ q.x s w h.m HS.out hq.b4).mono fun e w' k => ⟨k.e, Lib.hid (h.mm k), Lib.hid (h.mm k).bel⟩)
        have HO := Lib.hid (PS.take_ok HS.out q.x)
        have C0 := act_rule0 HB.out hq.k0
        have C4 := act_rule HB.out hq.k4
        clear hkk hk0 hq
        generalize s.takeB q.x = r at *
        generalize s.takeS q.x = s' at *
        go_wp2_with fail
        have T0' := Lib.hid (T0.out.to ((Drawn.drew _).below _))
        have G0' : Hid (Below W.heap.size W wr.drew) := Lib.hid T0'.out.bel
        go_region_held3 (fun w' => Hid (Below W.heap.size W w'))
          (first | exact G0' | assumption)
          (first
            | (go_at_call 11; (refine (HP.out _ _ (Hid.out (by assumption))).mono ?_); rintro e w' ⟨rfl, hT, hB⟩)
            | (go_at_call 12; (refine (HQ.out _ _ (Hid.out (by assumption))).mono ?_); rintro e w' ⟨rfl, hT, hB⟩))
        all_goals
          have T1 := (‹Hid (Two W s' s' _)›)
          clear C0 C4 HP HQ T0 T0' G0 G0'
          go_wp2_with fail
          refine (pc_Next _ look s' _ T1.out.p HO.out hlook).mono ?_
          rintro e w3 ⟨rfl, hb⟩
          have T2 := Lib.hid (T1.out.to hb)
          clear hb
          go_wp2_with fail
          refine (rq_Next _ look s' _ T2.out.m HO.out hlook).mono ?_
          rintro e w4 ⟨rfl, hb⟩
          have T3 := Lib.hid (T2.out.to hb)
          clear hb T1 T2
          generalize s'.nextT look = nt at *
          generalize s'.nextB look = nb at *
          go_wp2_with fail
          have T4 := Lib.hid (T3.out.to ((Drawn.drew _).below _))
          have M1 : ∀ w, Hid (Two W s' s' w) → w.cell? ⟨W.heap.size + 1, 1, none⟩ = some (.int .u64 (s'.s : Int)) := fun w h => h.out.m.cell rfl
          go_region_held3 (fun w' => Hid (Two W s' s' w'))
            (first | exact T4 | assumption)
            (first | (go_at_call 17; (refine (pc_Credit _ s' _ (Hid.out (by assumption) : Two W s' s' _).p).mono ?_); rintro e w' ⟨rfl, rfl⟩))
          all_goals
            have T5 := (‹Hid (Two W s' s' _)›)
            clear T4 M1
            go_wp2_with fail
            go_roundw
            case rel => exact ⟨k + 1, s', by go_num, by omega, HO.out, T5.out⟩
            case measure => simp [intOf]; omega
      · have hr : (q.k : Int) % 3 = 2 := by omega
        have hr' : Int.tmod (q.k : Int) 3 = 2 := by rw [Int.tmod_eq_emod_of_nonneg (by omega)]; omega
        have HP : Hid (∀ s2 w, Two W s s2 w → Calls Try.prog 13 #[.pointer (some ⟨W.heap.size, 0, none⟩)] w fun e w' => e = .returned (.tuple #[]) ∧ Hid (Two W s.fillS s2 w') ∧ Hid (Below W.heap.size W w')) := Lib.hid (fun s2 w h => (pc_Fill _ s w h.p HS.out).mono fun e w' k => ⟨k.e, Lib.hid (h.pp k), Lib.hid (h.pp k).bel⟩)
        have HM : Hid (∀ w, Calls Try.prog 14 #[.int .u64 (s.q : Int), .int .u64 1000000] w fun e w' => e = .returned (.int .u64 ((Pl.mulS s.q 1000000 : Nat) : Int)) ∧ w = w') := Lib.hid (fun w => ref_Mul s.q 1000000 w HS.out.2.1 (by omega))
        have HO := Lib.hid (PS.fill_ok HS.out)
        have HF : Hid (s.rcells.setIfInBounds 1 (.int .u64 ((Pl.mulS s.q 1000000 : Nat) : Int)) = s.fillS.rcells) := Lib.hid rfl
        have C0 := act_rule0 HB.out hq.k0
        clear hkk hk0 hq
        generalize s.fillS = s' at *
        go_wp2_with fail
        refine (HP.out _ _ T0.out).mono ?_
        rintro e w1 ⟨rfl, hT, _⟩
        have c3 := hT.out.m.cell (i := 3) (v := .int .u64 (s.q : Int)) rfl
        have c1 := hT.out.m.cell (i := 1) (v := .int .u64 (s.s : Int)) rfl
        have y1 := hT.out.m.free 1
        have T1 : Hid (Two W s' s' (w1.setCell ⟨W.heap.size + 1, 1, none⟩ (.int .u64 ((Pl.mulS s.q 1000000 : Nat) : Int)))) := Lib.hid ⟨hT.out.p.set_other 1 _ (by omega), HF.out ▸ hT.out.m.set 1 _, hT.out.bel.setCell (p := ⟨W.heap.size + 1, 1, none⟩) (Nat.le_succ _) _⟩
        clear HF C0 HP T0 G0 hT
        generalize Pl.mulS s.q 1000000 = z at *
        go_wp2_with (go_at_call 14; (refine (HM.out _).mono ?_); rintro e w' ⟨rfl, rfl⟩)
        go_wp2_with fail
        refine (pc_Next _ look s' _ T1.out.p HO.out hlook).mono ?_
        rintro e w3 ⟨rfl, hb⟩
        have T2 := Lib.hid (T1.out.to hb)
        clear hb
        go_wp2_with fail
        refine (rq_Next _ look s' _ T2.out.m HO.out hlook).mono ?_
        rintro e w4 ⟨rfl, hb⟩
        have T3 := Lib.hid (T2.out.to hb)
        clear hb T1 T2
        generalize s'.nextT look = nt at *
        generalize s'.nextB look = nb at *
        go_wp2_with fail
        have T4 := Lib.hid (T3.out.to ((Drawn.drew _).below _))
        have M1 : ∀ w, Hid (Two W s' s' w) → w.cell? ⟨W.heap.size + 1, 1, none⟩ = some (.int .u64 (s'.s : Int)) := fun w h => h.out.m.cell rfl
        go_region_held3 (fun w' => Hid (Two W s' s' w'))
          (first | exact T4 | assumption)
          (first | (go_at_call 17; (refine (pc_Credit _ s' _ (Hid.out (by assumption) : Two W s' s' _).p).mono ?_); rintro e w' ⟨rfl, rfl⟩))
        all_goals
          have T5 := (‹Hid (Two W s' s' _)›)
          clear T4 M1
          go_wp2_with fail
          go_roundw
          case rel => exact ⟨k + 1, s', by go_num, by omega, HO.out, T5.out⟩
          case measure => simp [intOf]; omega
    · have hlt' : decide (k < l.length) = false := decide_eq_false hlt
      go_wp2_with (go_at_call 7; refine (HA.out _).mono ?_; rintro e w' ⟨rfl, hb⟩)
      go_ret
      exact ⟨rfl, bel_to G0.out hb G0.out.size⟩

theorem PacerPlays_walk (v : Option Addr) (n c look : Nat) (l : List Act16) (b off : Nat) (W : World) (hlook : look ≤ 18446744073709551615) (h : l.length = n ∧ InAct16 W v l b off) :
    Calls Try.prog 3 #[.slice v n c, .int .u64 (look : Int)] W fun e w' => e = .returned (.bool true) ∧ Below W.heap.size W w' := by
  obtain ⟨rfl, h⟩ := h
  by_cases hf : 200 < l.length
  · exact plays16_long v c b off look l W h hf
  · exact plays16_short v c b off look l W h (by omega) hlook
end Go.Proofs.Ytafmfkgaijnfbaa
