/- JitterPlays over this translation: the box answers as the document's box does, act by act. -/
import Derived.Test.YtlhgiboajnhahaaTwj
import Derived.Test.YtlhgiboajnhahaaIn20
import Derived.Deep.DeepCutAuto
import Derived.Deep.LoopGhost
import Derived.Laws.StructEq
set_option linter.unusedVariables false
namespace Go.Proofs.Ytlhgiboajnhahaa
open Go.RowKit

/-- What holds of the two boxes at each round's head. -/
def Play20 (W : World) (n k b m : Nat) (s : BxS) (w : World) : Prop := k ≤ n ∧ s.ok ∧ s.l.length ≤ k ∧ TwP W b m s s w
theorem kp_at {W w : World} {b o j : Nat} {v : Value} (hb : b < W.heap.size) (g : Below W.heap.size W w) (h : W.cell? ⟨b, o + j, none⟩ = some v) : w.cell? ⟨b, o + j, none⟩ = some v := (g.cell (p := ⟨b, _, none⟩) hb).trans h
theorem kp_at0 {W w : World} {b o : Nat} {v : Value} (hb : b < W.heap.size) (g : Below W.heap.size W w) (h : W.cell? ⟨b, o, none⟩ = some v) : w.cell? ⟨b, o, none⟩ = some v := (g.cell (p := ⟨b, _, none⟩) hb).trans h

theorem plays20_long (v : Option Addr) (c b off d j : Nat) (l : List Act20) (W : World) (h : InAct20 W v l b off) (hf : 200 < l.length) :
    Calls Try.prog 3 #[.int .u64 (d : Int), .int .u64 (j : Int), .slice v l.length c] W fun e w' => e = .returned (.bool true) ∧ Below W.heap.size W w' := by
  have HA := Lib.hid (alive20 W)
  have hm := h.1
  have d0 : decide ((200 : Int) < (l.length : Int)) = true := decide_eq_true (by omega)
  have d1 : decide (200 < l.length) = true := decide_eq_true hf
  clear h hf
  go_enter Try.func3, Try.ntmps3
  go_wp2_with (go_at_call 6; refine (HA.out).mono ?_; rintro e w' ⟨rfl, hb⟩)
  go_ret
  exact ⟨rfl, hb⟩

set_option maxRecDepth 100000 in
set_option maxHeartbeats 8000000 in
theorem plays20_short (v : Option Addr) (c ab off d j : Nat) (l : List Act20) (W : World) (h : InAct20 W v l ab off) (hf : l.length ≤ 200) (hd : d ≤ 18446744073709551615) (hj : j ≤ 18446744073709551615) :
    Calls Try.prog 3 #[.int .u64 (d : Int), .int .u64 (j : Int), .slice v l.length c] W fun e w' => e = .returned (.bool true) ∧ Below W.heap.size W w' := by
  have HL := Lib.hid h
  have HA := Lib.hid alive20
  have HF := Lib.hid hf
  have HI0 := Lib.hid (BxS.start_ok hd hj)
  have hc : decide (200 < l.length) = false := decide_eq_false (by omega)
  have hc' : decide ((200 : Int) < (l.length : Int)) = false := decide_eq_false (by omega)
  clear h hd hj
  go_enter Try.func3, Try.ntmps3
  go_wp2_with (go_at_call 7; refine (bx_New d j _).mono ?_; rintro e w0 ⟨⟨b, rb0, g0, rfl, q1, q2, q3, q4⟩, q5⟩)
  have T0 := Lib.hid (tp_start q1 q2 q3 q4 q5)
  clear q1 q2 q3 q4 q5
  generalize (w0.alloc (.cells #[.int .u64 (d : Int), .int .u64 (j : Int), .slice none 0 0, .int .u64 0] 30)) = w00 at *
  generalize w0.heap.size = m at *
  go_loopw [9] (fun i wr => ∃ (k : Nat) (s : BxS), i = .int .i64 (k : Int) ∧ Play20 W l.length k b m s wr) (fun i _ => l.length - (intOf i).toNat)
  case atStart =>
    exact ⟨0, BxS.start d j, rfl, Nat.zero_le _, HI0.out, Nat.le_refl _, T0.out⟩
  case round =>
    obtain ⟨k, s, rfl, hk, hi, few, ht⟩ := hrel
    have HI := Lib.hid hi
    have T1 := Lib.hid ht
    have G1 := Lib.hid ht.bel
    clear hi ht T0 HI0
    by_cases hlt : k < l.length
    · have hq := HL.out.2.2 k hlt
      have hB := (HL.out.2.1 (by omega)).2
      obtain rfl := (HL.out.2.1 (by omega)).1
      generalize l.getD k default = q at *
      have HB := Lib.hid hB
      have HQ := Lib.hid hq
      have c0 := kp_at0 hB T1.out.bel hq.k0
      have c1 := kp_at hB T1.out.bel hq.k1
      have c2 := kp_at hB T1.out.bel hq.k2
      clear hB hq
      have i0 : (0 : Int) ≤ (k : Int) := by omega
      have i1 : (k : Int) < (l.length : Int) := by omega
      have i2 : k ≤ 200 := by omega
      have hwk : IntKind.u64.wrap (k : Int) = (k : Int) := by rw [IntKind.wrap_u64]; omega
      have HFl : Hid (s.l.length ≤ 1000) := Lib.hid (by omega)
      cases hqt : q.out with
      | true =>
        rw [hqt] at c0
        have HO1 := Lib.hid (tp_Out W b m q.now s s HFl.out)
        have HO2 := Lib.hid (tp_OutD W b m q.now s (s.outB q.now) )
        have HI' : Hid ((s.outB q.now).ok) := Lib.hid (BxS.out_ok HI.out q.now)
        have HF' : Hid ((s.outB q.now).l.length ≤ k + 1) := Lib.hid (by have := s.out_len q.now; omega)
        have HTl : Hid ((s.told q.now).length ≤ 1000) := Lib.hid (by have := s.told_len q.now; omega)
        generalize s.outB q.now = s' at *
        generalize s.told q.now = tl at *
        have HFl' : Hid (s'.l.length ≤ 1000) := Lib.hid (by have := HF'.out; omega)
        go_wp2_with fail
        refine (HO1.out _ T1.out).mono ?_
        rintro e w3 ⟨ao, cap, rfl, T3, hx⟩
        clear HO1 T1 c0 c1 c2
        have c1 := kp_at HB.out T3.out.bel HQ.out.k1
        go_wp2_with fail
        refine (HO2.out _ tl HFl.out _ T3.out hx.out).mono ?_
        rintro e w4 ⟨ao2, cap2, rfl, T4, hi2, hx4⟩
        clear HO2 T3 hx c1 HFl
        have HFl := HFl'
        clear HFl'
        obtain ⟨ao3, cap3, e3, _, _, hi1, _⟩ := hx4.out.form
        injection e3 with e4 e5 e6
        subst e4 e6
        have HSm0 := Lib.hid (Same_any tl ao ao2 cap cap2 w4 hi1 hi2.out HTl.out)
        clear hi1 hi2 hx4 e5
        go_wp2_with fail
        refine HSm0.out.mono ?_
        rintro e w5 ⟨rfl, hd⟩
        have T5 := Lib.hid (T4.out.to (hd.below _))
        clear hd T4 HSm0
        go_wp2_with fail
        have HNx := Lib.hid (tp_Next W b m s' s')
        have HAl := Lib.hid (tp_All W b m s' s' HFl.out)
        have Hal := Lib.hid (tp_all W b m s' s' HFl.out)
        refine (HNx.out _ T5.out).mono ?_
        rintro e w6 ⟨rfl, hb⟩
        have T6 := Lib.hid (T5.out.to hb)
        clear hb T5 HNx
        go_wp2_with fail
        refine (HAl.out _ T6.out).mono ?_
        rintro e w7 ⟨ao1, cap1, rfl, hi1, hb⟩
        have T7 := Lib.hid (T6.out.to hb)
        clear hb T6 HAl
        go_wp2_with fail
        refine (Hal.out _ T7.out).mono ?_
        rintro e w7' ⟨ao2, cap2, rfl, hi2, hb⟩
        have T7' := Lib.hid (T7.out.to hb)
        have HSm := Lib.hid (Same_any s'.pks ao1 ao2 cap1 cap2 w7' (hi1.out.keep hb) hi2.out (by have := HFl.out; unfold BxS.pks; rw [List.length_map]; omega))
        clear hb T7 Hal hi1 hi2
        go_wp2_with fail
        refine HSm.out.mono ?_
        rintro e w8 ⟨rfl, hd⟩
        have T8 := Lib.hid (T7'.out.to (hd.below _))
        clear hd T7' HSm
        go_wp2_with fail
        rcases hsl : s'.l with _ | ⟨x, t⟩
        · have n1 : s'.nextT = 0 := by unfold BxS.nextT; rw [hsl]; rfl
          have n2 : s'.someB = false := by unfold BxS.someB; rw [hsl]; rfl
          rw [n1, n2]
          clear n1 n2
          obtain ⟨ao, cap, c2, hfst⟩ := tp_doc T8.out
          rw [hsl] at c2
          have HL8 : Hid (∀ n, Calls Try.prog 16 #[.pointer (some ⟨b, 0, none⟩)] (w8.drewN n) fun e w' => e = .returned (.int .i64 (s'.l.length : Int)) ∧ w' = w8.drewN n) := Lib.hid (fun n => (tp_Len W b m s' s' _ (T8.out.to ((show Drawn w8 (w8.drewN n) from ⟨n, rfl⟩).below _))).mono fun _ _ h => ⟨h.1, h.2.symm⟩)
          rw [hsl] at HL8
          clear hfst
          have c2 : w8.cell? ⟨m, 2, none⟩ = some (.slice ao 0 cap) := c2
          go_quiet (first | (go_at_call 16; exact Calls.quiet_of_same (HL8.out _)))
          have T9 := Lib.hid (T8.out.to ((show Drawn w8 (w8.drewN nq) from ⟨nq, rfl⟩).below _))
          go_wp2_with fail
          go_roundw
          case rel => exact ⟨k + 1, s', by go_num, by omega, HI'.out, HF'.out, T9.out⟩
          case measure => simp [intOf]; omega
        · have n1 : s'.nextT = x.due := by unfold BxS.nextT; rw [hsl]; rfl
          have n2 : s'.someB = true := by unfold BxS.someB; rw [hsl]; rfl
          rw [n1, n2]
          clear n1 n2
          obtain ⟨ao, cap, c2, hfst⟩ := tp_doc T8.out
          rw [hsl] at c2
          obtain ⟨g, rfl, c7⟩ := hfst _ _ hsl
          have HL8 : Hid (∀ n, Calls Try.prog 16 #[.pointer (some ⟨b, 0, none⟩)] (w8.drewN n) fun e w' => e = .returned (.int .i64 (s'.l.length : Int)) ∧ w' = w8.drewN n) := Lib.hid (fun n => (tp_Len W b m s' s' _ (T8.out.to ((show Drawn w8 (w8.drewN n) from ⟨n, rfl⟩).below _))).mono fun _ _ h => ⟨h.1, h.2.symm⟩)
          rw [hsl] at HL8
          clear hfst
          have c2 : w8.cell? ⟨m, 2, none⟩ = some (.slice (some ⟨g, 0, none⟩) (t.length + 1) cap) := c2
          have b0 : (0 : Int) < ((t.length + 1 : Nat) : Int) := by omega
          have b1 : (0 : Int) < (t.length : Int) + 1 := by omega
          have HL8 : Hid (∀ n, Calls Try.prog 16 #[.pointer (some ⟨b, 0, none⟩)] (w8.drewN n) fun e w' => e = .returned (.int .i64 ((t.length : Int) + 1)) ∧ w' = w8.drewN n) := Lib.hid (fun n => HL8.out n)
          go_quiet (first | (go_at_call 16; exact Calls.quiet_of_same (HL8.out _)))
          have T9 := Lib.hid (T8.out.to ((show Drawn w8 (w8.drewN nq) from ⟨nq, rfl⟩).below _))
          go_wp2_with fail
          go_roundw
          case rel => exact ⟨k + 1, s', by go_num, by omega, HI'.out, HF'.out, T9.out⟩
          case measure => simp [intOf]; omega
      | false =>
        rw [hqt] at c0
        have HP1 := Lib.hid (fun s2 w h hz => tp_Put W b m wr.heap.size #[.int .u64 (k : Int), .int .u64 (q.ch : Int), .int .u64 0, .int .u64 0, .int .u64 0, .int .u64 0, .bool false] s ⟨k, q.ch, 0, 0, 0, 0, false⟩ q.now q.ch HI.out HQ.out.b1 HQ.out.b2 HFl.out s2 w h hz)
        have HP2 := Lib.hid (fun s1 w h hz => tp_PutD W b m wr.heap.size #[.int .u64 (k : Int), .int .u64 (q.ch : Int), .int .u64 0, .int .u64 0, .int .u64 0, .int .u64 0, .bool false] s ⟨k, q.ch, 0, 0, 0, 0, false⟩ q.now q.ch HI.out HQ.out.b1 HQ.out.b2 HFl.out s1 w h hz)
        have HI' : Hid ((s.putB ⟨k, q.ch, 0, 0, 0, 0, false⟩ q.now q.ch).ok) := Lib.hid (BxS.put_ok HI.out ⟨k, q.ch, 0, 0, 0, 0, false⟩ q.now q.ch)
        have HF' : Hid ((s.putB ⟨k, q.ch, 0, 0, 0, 0, false⟩ q.now q.ch).l.length ≤ k + 1) := Lib.hid (by rw [BxS.put_len]; omega)
        generalize s.putB ⟨k, q.ch, 0, 0, 0, 0, false⟩ q.now q.ch = s' at *
        generalize s.dueB q.now q.ch = y at *
        have HFl : Hid (s'.l.length ≤ 1000) := Lib.hid (by have := HF'.out; omega)
        unfold Pk.agg at HP1 HP2
        go_upto_region 13 with fail
        have T2 := Lib.hid (T1.out.to (al_be wr (.cells #[.int .u64 (k : Int), .int .u64 (q.ch : Int), .int .u64 0, .int .u64 0, .int .u64 0, .int .u64 0, .bool false] 39)))
        have B2 := Lib.hid (Blk.new wr 39 #[.int .u64 (k : Int), .int .u64 (q.ch : Int), .int .u64 0, .int .u64 0, .int .u64 0, .int .u64 0, .bool false])
        have R8 := twx_in (b := b) (m := m) (z := wr.heap.size) (cs := #[.int .u64 (k : Int), .int .u64 (q.ch : Int), .int .u64 0, .int .u64 0, .int .u64 0, .int .u64 0, .bool false]) HB.out HQ.out.k1
        have R9 := twx_in (b := b) (m := m) (z := wr.heap.size) (cs := #[.int .u64 (k : Int), .int .u64 (q.ch : Int), .int .u64 0, .int .u64 0, .int .u64 0, .int .u64 0, .bool false]) HB.out HQ.out.k2
        clear T1 c0 c1 c2
        generalize (wr.alloc (.cells #[.int .u64 (k : Int), .int .u64 (q.ch : Int), .int .u64 0, .int .u64 0, .int .u64 0, .int .u64 0, .bool false] 39)) = w2 at *
        generalize hz : wr.heap.size = z at *
        clear hz
        have R0 := twx_box (W := W) (b := b) (m := m) (z := z) (cs := #[.int .u64 (k : Int), .int .u64 (q.ch : Int), .int .u64 0, .int .u64 0, .int .u64 0, .int .u64 0, .bool false]) (i := 0) rfl
        have R1 := twx_box (W := W) (b := b) (m := m) (z := z) (cs := #[.int .u64 (k : Int), .int .u64 (q.ch : Int), .int .u64 0, .int .u64 0, .int .u64 0, .int .u64 0, .bool false]) (i := 1) rfl
        have R2 := twx_box (W := W) (b := b) (m := m) (z := z) (cs := #[.int .u64 (k : Int), .int .u64 (q.ch : Int), .int .u64 0, .int .u64 0, .int .u64 0, .int .u64 0, .bool false]) (i := 2) rfl
        have R3 := twx_box (W := W) (b := b) (m := m) (z := z) (cs := #[.int .u64 (k : Int), .int .u64 (q.ch : Int), .int .u64 0, .int .u64 0, .int .u64 0, .int .u64 0, .bool false]) (i := 3) rfl
        have R4 := twx_box (W := W) (b := b) (m := m) (z := z) (cs := #[.int .u64 (k : Int), .int .u64 (q.ch : Int), .int .u64 0, .int .u64 0, .int .u64 0, .int .u64 0, .bool false]) (i := 4) rfl
        have R5 := twx_box (W := W) (b := b) (m := m) (z := z) (cs := #[.int .u64 (k : Int), .int .u64 (q.ch : Int), .int .u64 0, .int .u64 0, .int .u64 0, .int .u64 0, .bool false]) (i := 5) rfl
        have R6 := twx_box (W := W) (b := b) (m := m) (z := z) (cs := #[.int .u64 (k : Int), .int .u64 (q.ch : Int), .int .u64 0, .int .u64 0, .int .u64 0, .int .u64 0, .bool false]) (i := 6) rfl
        have T2d := Lib.hid (show TwP W b m s s w2.drew ∧ Blk w2.drew z 39 #[.int .u64 (k : Int), .int .u64 (q.ch : Int), .int .u64 0, .int .u64 0, .int .u64 0, .int .u64 0, .bool false] from ⟨T2.out.to ((Drawn.drew w2).below _), B2.out.drew⟩)
        have X2 : Hid (TwX W b m z #[.int .u64 (k : Int), .int .u64 (q.ch : Int), .int .u64 0, .int .u64 0, .int .u64 0, .int .u64 0, .bool false] w2.drew) := Lib.hid ⟨_, _, T2d.out.1, T2d.out.2⟩
        go_wp2_with fail
        go_region_held3 (fun w' => Hid (TwX W b m z #[.int .u64 (k : Int), .int .u64 (q.ch : Int), .int .u64 0, .int .u64 0, .int .u64 0, .int .u64 0, .bool false] w'))
          (first | exact X2 | assumption)
          (first
            | (go_at_call 11; (refine (HP1.out _ _ T2d.out.1 T2d.out.2).mono ?_); clear HP1; rintro e wa ⟨rfl, hT, hB⟩)
            | (go_at_call 12; (refine (HP2.out _ _ hT.out.1 hT.out.2).mono ?_); clear HP2; rintro e wb ⟨rfl, hT2, hB2⟩))
        all_goals
          have T5 := Lib.hid hT2.out.1
          clear R0 R1 R2 R3 R4 R5 R6 R8 R9 T2 T2d X2 hT hT2 B2
          go_wp2_with fail
          have HNx := Lib.hid (tp_Next W b m s' s')
          have HAl := Lib.hid (tp_All W b m s' s' HFl.out)
          have Hal := Lib.hid (tp_all W b m s' s' HFl.out)
          refine (HNx.out _ T5.out).mono ?_
          rintro e w6 ⟨rfl, hb⟩
          have T6 := Lib.hid (T5.out.to hb)
          clear hb T5 HNx
          go_wp2_with fail
          refine (HAl.out _ T6.out).mono ?_
          rintro e w7 ⟨ao1, cap1, rfl, hi1, hb⟩
          have T7 := Lib.hid (T6.out.to hb)
          clear hb T6 HAl
          go_wp2_with fail
          refine (Hal.out _ T7.out).mono ?_
          rintro e w7' ⟨ao2, cap2, rfl, hi2, hb⟩
          have T7' := Lib.hid (T7.out.to hb)
          have HSm := Lib.hid (Same_any s'.pks ao1 ao2 cap1 cap2 w7' (hi1.out.keep hb) hi2.out (by have := HFl.out; unfold BxS.pks; rw [List.length_map]; omega))
          clear hb T7 Hal hi1 hi2
          go_wp2_with fail
          refine HSm.out.mono ?_
          rintro e w8 ⟨rfl, hd⟩
          have T8 := Lib.hid (T7'.out.to (hd.below _))
          clear hd T7' HSm
          go_wp2_with fail
          rcases hsl : s'.l with _ | ⟨x, t⟩
          · have n1 : s'.nextT = 0 := by unfold BxS.nextT; rw [hsl]; rfl
            have n2 : s'.someB = false := by unfold BxS.someB; rw [hsl]; rfl
            rw [n1, n2]
            clear n1 n2
            obtain ⟨ao, cap, c2, hfst⟩ := tp_doc T8.out
            rw [hsl] at c2
            have HL8 : Hid (∀ n, Calls Try.prog 16 #[.pointer (some ⟨b, 0, none⟩)] (w8.drewN n) fun e w' => e = .returned (.int .i64 (s'.l.length : Int)) ∧ w' = w8.drewN n) := Lib.hid (fun n => (tp_Len W b m s' s' _ (T8.out.to ((show Drawn w8 (w8.drewN n) from ⟨n, rfl⟩).below _))).mono fun _ _ h => ⟨h.1, h.2.symm⟩)
            rw [hsl] at HL8
            clear hfst
            have c2 : w8.cell? ⟨m, 2, none⟩ = some (.slice ao 0 cap) := c2
            go_quiet (first | (go_at_call 16; exact Calls.quiet_of_same (HL8.out _)))
            have T9 := Lib.hid (T8.out.to ((show Drawn w8 (w8.drewN nq) from ⟨nq, rfl⟩).below _))
            go_wp2_with fail
            go_roundw
            case rel => exact ⟨k + 1, s', by go_num, by omega, HI'.out, HF'.out, T9.out⟩
            case measure => simp [intOf]; omega
          · have n1 : s'.nextT = x.due := by unfold BxS.nextT; rw [hsl]; rfl
            have n2 : s'.someB = true := by unfold BxS.someB; rw [hsl]; rfl
            rw [n1, n2]
            clear n1 n2
            obtain ⟨ao, cap, c2, hfst⟩ := tp_doc T8.out
            rw [hsl] at c2
            obtain ⟨g, rfl, c7⟩ := hfst _ _ hsl
            have HL8 : Hid (∀ n, Calls Try.prog 16 #[.pointer (some ⟨b, 0, none⟩)] (w8.drewN n) fun e w' => e = .returned (.int .i64 (s'.l.length : Int)) ∧ w' = w8.drewN n) := Lib.hid (fun n => (tp_Len W b m s' s' _ (T8.out.to ((show Drawn w8 (w8.drewN n) from ⟨n, rfl⟩).below _))).mono fun _ _ h => ⟨h.1, h.2.symm⟩)
            rw [hsl] at HL8
            clear hfst
            have c2 : w8.cell? ⟨m, 2, none⟩ = some (.slice (some ⟨g, 0, none⟩) (t.length + 1) cap) := c2
            have b0 : (0 : Int) < ((t.length + 1 : Nat) : Int) := by omega
            have b1 : (0 : Int) < (t.length : Int) + 1 := by omega
            have HL8 : Hid (∀ n, Calls Try.prog 16 #[.pointer (some ⟨b, 0, none⟩)] (w8.drewN n) fun e w' => e = .returned (.int .i64 ((t.length : Int) + 1)) ∧ w' = w8.drewN n) := Lib.hid (fun n => HL8.out n)
            go_quiet (first | (go_at_call 16; exact Calls.quiet_of_same (HL8.out _)))
            have T9 := Lib.hid (T8.out.to ((show Drawn w8 (w8.drewN nq) from ⟨nq, rfl⟩).below _))
            go_wp2_with fail
            go_roundw
            case rel => exact ⟨k + 1, s', by go_num, by omega, HI'.out, HF'.out, T9.out⟩
            case measure => simp [intOf]; omega
    · have hlt' : decide (k < l.length) = false := decide_eq_false hlt
      go_wp2_with (go_at_call 6; refine (HA.out _).mono ?_; rintro e w' ⟨rfl, hb⟩)
      go_ret
      exact ⟨rfl, bel_to G1.out hb G1.out.size⟩

theorem JitterPlays_walk (d j : Nat) (v : Option Addr) (n c : Nat) (l : List Act20) (b off : Nat) (W : World) (hd : d ≤ 18446744073709551615) (hj : j ≤ 18446744073709551615) (h : l.length = n ∧ InAct20 W v l b off) :
    Calls Try.prog 3 #[.int .u64 (d : Int), .int .u64 (j : Int), .slice v n c] W fun e w' => e = .returned (.bool true) ∧ Below W.heap.size W w' := by
  obtain ⟨rfl, h⟩ := h
  by_cases hf : 200 < l.length
  · exact plays20_long v c b off d j l W h hf
  · exact plays20_short v c b off d j l W h (by omega) hd hj

end Go.Proofs.Ytlhgiboajnhahaa
