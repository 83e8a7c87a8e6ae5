/- QueuePlays over this translation: the queue answers as the document's queue does, act by act. -/
import Derived.Test.YteolchbeiidapaaTwq
import Derived.Test.YteolchbeiidapaaIn19
import Derived.Deep.DeepCutAuto
import Derived.Deep.LoopGhost
import Derived.Laws.StructEq
set_option linter.unusedVariables false
namespace Go.Proofs.Yteolchbeiidapaa
open Go.RowKit

/-- The two queues, no box. -/
structure TwN (W : World) (b m : Nat) (s1 s2 : QK) (w : World) : Prop where
  q : ∃ rb g v ds, QAt w b rb g s1 ∧ W.heap.size ≤ rb ∧ W.heap.size ≤ g ∧ Blk w m 30 ds ∧ RCells ds 0 s2 v ∧ ROwn W.heap.size w v s2.l ∧ g ≠ vb v m
  lo : W.heap.size ≤ b ∧ W.heap.size ≤ m
  bel : Below W.heap.size W w
theorem TwN.al {W w : World} {b m : Nat} {s1 s2 : QK} (h : TwN W b m s1 s2 w) (ds : Array Value) : Two19 W b m w.heap.size ds s1 s2 (w.alloc (.cells ds 36)) := by
  have k := al_be w (.cells ds 36)
  obtain ⟨rb, g, v, es, h1, h2, h3, h4, h5, h6, h7⟩ := h.q
  exact ⟨⟨rb, g, v, es, h1.keep k, h2, h3, h4.keep k, h5, h6.keep k, h7, by have := h1.lt; omega, Nat.ne_of_lt (h6.lt h4.lt)⟩, Blk.new _ _ _, h.lo, bel_to h.bel k h.bel.size⟩
theorem Two19.n {W w : World} {b m z : Nat} {cs : Array Value} {s1 s2 : QK} (h : Two19 W b m z cs s1 s2 w) : TwN W b m s1 s2 w := by
  obtain ⟨rb, g, v, es, h1, h2, h3, h4, h5, h6, h7, _⟩ := h.q
  exact ⟨⟨rb, g, v, es, h1, h2, h3, h4, h5, h6, h7⟩, h.lo, h.bel⟩

/-- What holds of the two queues at each round's head. -/
def Play19 (W : World) (n k b m : Nat) (s : QK) (w : World) : Prop := k ≤ n ∧ Inv19 s ∧ s.l.length ≤ k ∧ TwN W b m s s w
theorem kp_at {W w : World} {b o j : Nat} {v : Value} (hb : b < W.heap.size) (g : Below W.heap.size W w) (h : W.cell? ⟨b, o + j, none⟩ = some v) : w.cell? ⟨b, o + j, none⟩ = some v := (g.cell (p := ⟨b, _, none⟩) hb).trans h
theorem kp_at0 {W w : World} {b o : Nat} {v : Value} (hb : b < W.heap.size) (g : Below W.heap.size W w) (h : W.cell? ⟨b, o, none⟩ = some v) : w.cell? ⟨b, o, none⟩ = some v := (g.cell (p := ⟨b, _, none⟩) hb).trans h

theorem plays19_long (v : Option Addr) (c b off r : Nat) (l : List Act19) (W : World) (h : InAct19 W v l b off) (hf : 200 < l.length) :
    Calls Try.prog 3 #[.int .u64 (r : Int), .slice v l.length c] W fun e w' => e = .returned (.bool true) ∧ Below W.heap.size W w' := by
  have HA := Lib.hid (alive19 W)
  have hm := h.1
  have d0 : decide ((200 : Int) < (l.length : Int)) = true := decide_eq_true (by omega)
  have d1 : decide (200 < l.length) = true := decide_eq_true hf
  clear h hf
  go_enter Try.func3, Try.ntmps3
  go_wp2_with (go_at_call 5; refine (HA.out).mono ?_; rintro e w' ⟨rfl, hb⟩)
  go_ret
  exact ⟨rfl, hb⟩

/-- Both queues as they are made. -/
theorem two_start {W w : World} {b rb g r : Nat} (h : QAt w b rb g (QK.start r)) (h1 : W.heap.size ≤ b) (h2 : W.heap.size ≤ rb) (h3 : W.heap.size ≤ g) (hb : Below W.heap.size W w) :
    TwN W b w.heap.size (QK.start r) (QK.start r) (w.alloc (.cells #[.int .u64 (r : Int), .slice none 0 0, .int .u64 0, .int .u64 0] 30)) := by
  have k := al_be w (.cells #[.int .u64 (r : Int), .slice none 0 0, .int .u64 0, .int .u64 0] 30)
  have hm := Blk.new w 30 #[.int .u64 (r : Int), .slice none 0 0, .int .u64 0, .int .u64 0]
  have lt := h.lt
  exact ⟨⟨rb, g, .slice none 0 0, _, h.keep k, h2, h3, hm, ⟨rfl, rfl, rfl, rfl⟩, ROwn.nil _ _, by show g ≠ w.heap.size; omega⟩, ⟨h1, hb.size⟩, bel_to hb k hb.size⟩

set_option maxRecDepth 100000 in
set_option maxHeartbeats 8000000 in
theorem plays19_short (v : Option Addr) (c ab off r : Nat) (l : List Act19) (W : World) (h : InAct19 W v l ab off) (hf : l.length ≤ 200) (hr : r ≤ 18446744073709551615) :
    Calls Try.prog 3 #[.int .u64 (r : Int), .slice v l.length c] W fun e w' => e = .returned (.bool true) ∧ Below W.heap.size W w' := by
  have HL := Lib.hid h
  have HA := Lib.hid alive19
  have HR := Lib.hid hr
  have HF := Lib.hid hf
  have hc : decide (200 < l.length) = false := decide_eq_false (by omega)
  have hc' : decide ((200 : Int) < (l.length : Int)) = false := decide_eq_false (by omega)
  clear h hr
  go_enter Try.func3, Try.ntmps3
  go_wp2_with (go_at_call 6; refine (wq_New r _).mono ?_; rintro e w0 ⟨⟨b, rb0, g0, rfl, q1, q2, q3, q4⟩, q5⟩)
  have T0 := Lib.hid (two_start q1 q2 q3 q4 q5)
  clear q1 q2 q3 q4 q5
  generalize (w0.alloc (.cells #[.int .u64 (r : Int), .slice none 0 0, .int .u64 0, .int .u64 0] 30)) = w00 at *
  generalize w0.heap.size = m at *
  go_loopw [7] (fun i wr => ∃ (k : Nat) (s : QK), i = .int .i64 (k : Int) ∧ Play19 W l.length k b m s wr) (fun i _ => l.length - (intOf i).toNat)
  case atStart =>
    exact ⟨0, QK.start r, rfl, Nat.zero_le _, Inv19.start HR.out, Nat.le_refl _, T0.out⟩
  case round =>
    obtain ⟨k, s, rfl, hk, hi, few, ht⟩ := hrel
    have HI := Lib.hid hi
    have T1 := Lib.hid ht
    have G1 := Lib.hid ht.bel
    clear hi ht T0
    by_cases hlt : k < l.length
    · have hq := HL.out.2.2 k hlt
      have hB := (HL.out.2.1 (by omega)).2
      obtain rfl := (HL.out.2.1 (by omega)).1
      generalize l.getD k default = q at *
      have HB := Lib.hid hB
      have HQ := Lib.hid hq
      have c1 := kp_at hB T1.out.bel hq.k1
      clear hB hq
      have i0 : (0 : Int) ≤ (k : Int) := by omega
      have i1 : (k : Int) < (l.length : Int) := by omega
      have i2 : k ≤ 200 := by omega
      have hwk : IntKind.u64.wrap (k : Int) = (k : Int) := by rw [IntKind.wrap_u64]; omega
      have HFl : Hid (s.l.length ≤ 1000) := Lib.hid (by omega)
      go_upto_region 10 with fail
      have T2 := Lib.hid (T1.out.al #[.int .u64 (k : Int), .int .u64 (q.size : Int), .int .u64 0, .int .u64 0, .int .u64 0, .int .u64 0, .bool false])
      clear T1 c1
      generalize (wr.alloc (.cells #[.int .u64 (k : Int), .int .u64 (q.size : Int), .int .u64 0, .int .u64 0, .int .u64 0, .int .u64 0, .bool false] 36)) = w2 at *
      have c0 := kp_at0 HB.out T2.out.bel HQ.out.k0
      have c1 := kp_at HB.out T2.out.bel HQ.out.k1
      cases hqt : q.take with
      | true =>
        rw [hqt] at c0
        have HS1 := Lib.hid (fun s' (hs : s.shiftQ = s') x (hx : s.headQ = x) y (hy : s.someQ = y) s2 w h => hs ▸ hx ▸ hy ▸ tw_Shift W b m wr.heap.size #[.int .u64 (k : Int), .int .u64 (q.size : Int), .int .u64 0, .int .u64 0, .int .u64 0, .int .u64 0, .bool false] s HI.out s2 w h)
        have HS2 := Lib.hid (fun z cs s' (hs : s.shiftQ = s') x (hx : s.headQ = x) y (hy : s.someQ = y) s1 w h => hs ▸ hx ▸ hy ▸ tw_ShiftD W b m z cs s HI.out HFl.out s1 w h)
        have HI' := Lib.hid HI.out.shift
        have HF' : Hid (s.shiftQ.l.length ≤ k + 1) := Lib.hid (by show (s.l.drop 1).length ≤ k + 1; rw [List.length_drop]; omega)
        have HS1 := Lib.hid (HS1.out _ rfl _ rfl _ rfl)
        have HS2 := Lib.hid (fun z cs => HS2.out z cs _ rfl _ rfl _ rfl)
        generalize s.shiftQ = s' at *
        generalize s.headQ = x at *
        generalize s.someQ = y at *
        have HFl : Hid (s'.l.length ≤ 1000) := Lib.hid (by have := HF'.out; omega)
        go_wp2_with fail
        refine (HS1.out _ _ T2.out).mono ?_
        rintro e w3 ⟨rfl, T3⟩
        clear HS1 T2 c0 c1
        unfold Pk.agg
        go_upto_region 12 with fail
        have T4 := Lib.hid (T3.out.al #[.int .u64 (x.n : Int), .int .u64 (x.size : Int), .int .u64 (x.sent : Int), .int .u64 (x.first : Int), .int .u64 (x.deliv : Int), .int .u64 (x.at_ : Int), .bool x.lim])
        have Hz : Hid (w3.heap.size < (w3.alloc (.cells #[.int .u64 (x.n : Int), .int .u64 (x.size : Int), .int .u64 (x.sent : Int), .int .u64 (x.first : Int), .int .u64 (x.deliv : Int), .int .u64 (x.at_ : Int), .bool x.lim] 36)).heap.size) := Lib.hid (by simp)
        clear T3
        generalize (w3.alloc (.cells #[.int .u64 (x.n : Int), .int .u64 (x.size : Int), .int .u64 (x.sent : Int), .int .u64 (x.first : Int), .int .u64 (x.deliv : Int), .int .u64 (x.at_ : Int), .bool x.lim] 36)) = w4 at *
        generalize w3.heap.size = z4 at *
        have HS2 := Lib.hid (HS2.out z4 #[.int .u64 (x.n : Int), .int .u64 (x.size : Int), .int .u64 (x.sent : Int), .int .u64 (x.first : Int), .int .u64 (x.deliv : Int), .int .u64 (x.at_ : Int), .bool x.lim])
        go_wp2_with fail
        refine (HS2.out _ _ T4.out).mono ?_
        rintro e w4' ⟨rfl, T4'⟩
        clear HS2 T4
        unfold Pk.agg
        go_upto_region 13 with fail
        have BX := Lib.hid (T4'.out.box.keep (al_be w4' (.cells #[.int .u64 (x.n : Int), .int .u64 (x.size : Int), .int .u64 (x.sent : Int), .int .u64 (x.first : Int), .int .u64 (x.deliv : Int), .int .u64 (x.at_ : Int), .bool x.lim] 36)))
        have T5 := Lib.hid (T4'.out.al #[.int .u64 (x.n : Int), .int .u64 (x.size : Int), .int .u64 (x.sent : Int), .int .u64 (x.first : Int), .int .u64 (x.deliv : Int), .int .u64 (x.at_ : Int), .bool x.lim])
        clear T4'
        generalize (w4'.alloc (.cells #[.int .u64 (x.n : Int), .int .u64 (x.size : Int), .int .u64 (x.sent : Int), .int .u64 (x.first : Int), .int .u64 (x.deliv : Int), .int .u64 (x.at_ : Int), .bool x.lim] 36)) = w5 at *
        generalize w4'.heap.size = z at *
        generalize hcs : (#[.int .u64 (x.n : Int), .int .u64 (x.size : Int), .int .u64 (x.sent : Int), .int .u64 (x.first : Int), .int .u64 (x.deliv : Int), .int .u64 (x.at_ : Int), .bool x.lim] : Array Value) = cs at T5
        have HCs := Lib.hid hcs
        clear hcs
        have BY : Hid (Blk w5 z 36 #[.int .u64 (x.n : Int), .int .u64 (x.size : Int), .int .u64 (x.sent : Int), .int .u64 (x.first : Int), .int .u64 (x.deliv : Int), .int .u64 (x.at_ : Int), .bool x.lim]) := Lib.hid (by rw [HCs.out]; exact T5.out.box)
        have x0 := BX.out.cell (i := 0) (v := .int .u64 (x.n : Int)) rfl
        have x1 := BX.out.cell (i := 1) (v := .int .u64 (x.size : Int)) rfl
        have x2 := BX.out.cell (i := 2) (v := .int .u64 (x.sent : Int)) rfl
        have x3 := BX.out.cell (i := 3) (v := .int .u64 (x.first : Int)) rfl
        have x4 := BX.out.cell (i := 4) (v := .int .u64 (x.deliv : Int)) rfl
        have x5 := BX.out.cell (i := 5) (v := .int .u64 (x.at_ : Int)) rfl
        have x6 := BX.out.cell (i := 6) (v := .bool x.lim) rfl
        have y0 := BY.out.cell (i := 0) (v := .int .u64 (x.n : Int)) rfl
        have y1 := BY.out.cell (i := 1) (v := .int .u64 (x.size : Int)) rfl
        have y2 := BY.out.cell (i := 2) (v := .int .u64 (x.sent : Int)) rfl
        have y3 := BY.out.cell (i := 3) (v := .int .u64 (x.first : Int)) rfl
        have y4 := BY.out.cell (i := 4) (v := .int .u64 (x.deliv : Int)) rfl
        have y5 := BY.out.cell (i := 5) (v := .int .u64 (x.at_ : Int)) rfl
        have y6 := BY.out.cell (i := 6) (v := .bool x.lim) rfl
        go_upto_region 15 with fail
        clear BX BY x0 x1 x2 x3 x4 x5 x6 y0 y1 y2 y3 y4 y5 y6
        have HDr := Lib.hid (tw_Dropped W b m z cs s' s')
        have HAl := Lib.hid (tw_All W b m z cs s' s')
        have HBy := Lib.hid (tw_Bytes W b m z cs s' s')
        have HBd := Lib.hid (tw_BytesD W b m z cs s' s' HI'.out HFl.out)
        go_wp2_with fail
        refine (HDr.out _ T5.out).mono ?_
        rintro e w6 ⟨rfl, hd⟩
        have T6 := Lib.hid (T5.out.to (hd.below _))
        clear hd T5
        go_wp2_with fail
        refine (HAl.out _ T6.out).mono ?_
        rintro e w7 ⟨rfl, hl, hb⟩
        have T7 := Lib.hid (T6.out.to hb)
        have HLb := Lib.hid hl
        clear hl hb T6
        obtain ⟨rb, g, v, ds, h1, h2, h3, h4, h5, h6, h7⟩ := T7.out.q
        obtain ⟨ao, cap, rfl, hc1, hc2, hit, _⟩ := h6.form
        have c1 := h4.cell h5.v
        have HSm := Lib.hid (Same_any s'.l (some ⟨w6.heap.size, 0, none⟩) ao s'.l.length cap w7 (Its.of_blk HLb.out) hit HFl.out)
        clear rb g h1 h2 h3 h4 h5 h6 h7 hc1 hc2 hit HLb HAl HDr
        go_wp2_with fail
        refine HSm.out.mono ?_
        rintro e w8 ⟨rfl, hd⟩
        have T8 := Lib.hid (T7.out.to (hd.below _))
        clear hd T7 HSm c1
        obtain ⟨rb, g, v, ds, h1, h2, h3, h4, h5, h6, h7⟩ := T8.out.q
        have c2 := h4.cell h5.d
        have c3 := h4.cell h5.g
        clear rb g h1 h2 h3 h4 h5 h6 h7
        go_wp2_with (first
          | (go_at_call 14; (refine (HBy.out _ T8.out).mono ?_); rintro e w' ⟨rfl, rfl⟩)
          | (go_at_call 15; (refine (HBd.out _ T8.out).mono ?_); rintro e w' ⟨rfl, rfl⟩))
        go_roundw
        case rel => exact ⟨k + 1, s', by go_num, by omega, HI'.out, HF'.out, T8.out.n⟩
        case measure => simp [intOf]; omega
      | false =>
        rw [hqt] at c0
        have HP1 := Lib.hid (fun s' (hs : s.putQ ⟨k, q.size, 0, 0, 0, 0, false⟩ = s') y (hy : s.putB ⟨k, q.size, 0, 0, 0, 0, false⟩ = y) s2 w h => hs ▸ hy ▸ tw_Put W b m wr.heap.size #[.int .u64 (k : Int), .int .u64 (q.size : Int), .int .u64 0, .int .u64 0, .int .u64 0, .int .u64 0, .bool false] s ⟨k, q.size, 0, 0, 0, 0, false⟩ HI.out HQ.out.b1 HFl.out s2 w h)
        have HP2 := Lib.hid (fun s' (hs : s.putQ ⟨k, q.size, 0, 0, 0, 0, false⟩ = s') y (hy : s.putB ⟨k, q.size, 0, 0, 0, 0, false⟩ = y) s1 w h => hs ▸ hy ▸ tw_PutD W b m wr.heap.size #[.int .u64 (k : Int), .int .u64 (q.size : Int), .int .u64 0, .int .u64 0, .int .u64 0, .int .u64 0, .bool false] s ⟨k, q.size, 0, 0, 0, 0, false⟩ HI.out HQ.out.b1 HFl.out s1 w h)
        have HI' : Hid (Inv19 (s.putQ ⟨k, q.size, 0, 0, 0, 0, false⟩)) := Lib.hid (HI.out.put HQ.out.b1)
        have HF' : Hid ((s.putQ ⟨k, q.size, 0, 0, 0, 0, false⟩).l.length ≤ k + 1) := Lib.hid (by have := QK.put_len s ⟨k, q.size, 0, 0, 0, 0, false⟩; omega)
        have HP1 := Lib.hid (HP1.out _ rfl _ rfl)
        have HP2 := Lib.hid (HP2.out _ rfl _ rfl)
        generalize s.putQ ⟨k, q.size, 0, 0, 0, 0, false⟩ = s' at *
        generalize s.putB ⟨k, q.size, 0, 0, 0, 0, false⟩ = y at *
        have HFl : Hid (s'.l.length ≤ 1000) := Lib.hid (by have := HF'.out; omega)
        unfold Pk.agg at HP1 HP2
        generalize hz : wr.heap.size = z at *
        clear hz
        have R0 := twx_box (W := W) (b := b) (m := m) (z := z) (cs := #[.int .u64 (k : Int), .int .u64 (q.size : Int), .int .u64 0, .int .u64 0, .int .u64 0, .int .u64 0, .bool false]) (i := 0) rfl
        have R1 := twx_box (W := W) (b := b) (m := m) (z := z) (cs := #[.int .u64 (k : Int), .int .u64 (q.size : Int), .int .u64 0, .int .u64 0, .int .u64 0, .int .u64 0, .bool false]) (i := 1) rfl
        have R2 := twx_box (W := W) (b := b) (m := m) (z := z) (cs := #[.int .u64 (k : Int), .int .u64 (q.size : Int), .int .u64 0, .int .u64 0, .int .u64 0, .int .u64 0, .bool false]) (i := 2) rfl
        have R3 := twx_box (W := W) (b := b) (m := m) (z := z) (cs := #[.int .u64 (k : Int), .int .u64 (q.size : Int), .int .u64 0, .int .u64 0, .int .u64 0, .int .u64 0, .bool false]) (i := 3) rfl
        have R4 := twx_box (W := W) (b := b) (m := m) (z := z) (cs := #[.int .u64 (k : Int), .int .u64 (q.size : Int), .int .u64 0, .int .u64 0, .int .u64 0, .int .u64 0, .bool false]) (i := 4) rfl
        have R5 := twx_box (W := W) (b := b) (m := m) (z := z) (cs := #[.int .u64 (k : Int), .int .u64 (q.size : Int), .int .u64 0, .int .u64 0, .int .u64 0, .int .u64 0, .bool false]) (i := 5) rfl
        have R6 := twx_box (W := W) (b := b) (m := m) (z := z) (cs := #[.int .u64 (k : Int), .int .u64 (q.size : Int), .int .u64 0, .int .u64 0, .int .u64 0, .int .u64 0, .bool false]) (i := 6) rfl
        have T2d := Lib.hid (T2.out.to ((Drawn.drew w2).below _))
        have X2 := twx T2d.out
        go_wp2_with fail
        go_region_held3 (fun w' => Hid (TwX W b m z #[.int .u64 (k : Int), .int .u64 (q.size : Int), .int .u64 0, .int .u64 0, .int .u64 0, .int .u64 0, .bool false] w'))
          (first | exact X2 | assumption)
          (first
            | (go_at_call 9; (refine (HP1.out _ _ (Hid.out (by assumption))).mono ?_); rintro e w' ⟨rfl, hT, hB⟩)
            | (go_at_call 10; (refine (HP2.out _ _ (Hid.out (by assumption))).mono ?_); rintro e w' ⟨rfl, hT, hB⟩))
        all_goals
          have T5' := (‹Hid (Two19 W b m z #[.int .u64 (k : Int), .int .u64 (q.size : Int), .int .u64 0, .int .u64 0, .int .u64 0, .int .u64 0, .bool false] s' s' _)›)
          generalize hcs : (#[.int .u64 (k : Int), .int .u64 (q.size : Int), .int .u64 0, .int .u64 0, .int .u64 0, .int .u64 0, .bool false] : Array Value) = cs at T5'
          clear hcs
          clear HP1 HP2 R0 R1 R2 R3 R4 R5 R6 T2 T2d X2 c1 c0
          have T5 := Lib.hid T5'.out
          clear T5'
          have HDr := Lib.hid (tw_Dropped W b m z cs s' s')
          have HAl := Lib.hid (tw_All W b m z cs s' s')
          have HBy := Lib.hid (tw_Bytes W b m z cs s' s')
          have HBd := Lib.hid (tw_BytesD W b m z cs s' s' HI'.out HFl.out)
          go_wp2_with fail
          refine (HDr.out _ T5.out).mono ?_
          rintro e w6 ⟨rfl, hd⟩
          have T6 := Lib.hid (T5.out.to (hd.below _))
          clear hd T5
          go_wp2_with fail
          refine (HAl.out _ T6.out).mono ?_
          rintro e w7 ⟨rfl, hl, hb⟩
          have T7 := Lib.hid (T6.out.to hb)
          have HLb := Lib.hid hl
          clear hl hb T6
          obtain ⟨rb, g, v, ds, h1, h2, h3, h4, h5, h6, h7⟩ := T7.out.q
          obtain ⟨ao, cap, rfl, hc1, hc2, hit, _⟩ := h6.form
          have c1 := h4.cell h5.v
          have HSm := Lib.hid (Same_any s'.l (some ⟨w6.heap.size, 0, none⟩) ao s'.l.length cap w7 (Its.of_blk HLb.out) hit HFl.out)
          clear rb g h1 h2 h3 h4 h5 h6 h7 hc1 hc2 hit HLb HAl HDr
          go_wp2_with fail
          refine HSm.out.mono ?_
          rintro e w8 ⟨rfl, hd⟩
          have T8 := Lib.hid (T7.out.to (hd.below _))
          clear hd T7 HSm c1
          obtain ⟨rb, g, v, ds, h1, h2, h3, h4, h5, h6, h7⟩ := T8.out.q
          have c2 := h4.cell h5.d
          have c3 := h4.cell h5.g
          clear rb g h1 h2 h3 h4 h5 h6 h7
          go_wp2_with (first
            | (go_at_call 14; (refine (HBy.out _ T8.out).mono ?_); rintro e w' ⟨rfl, rfl⟩)
            | (go_at_call 15; (refine (HBd.out _ T8.out).mono ?_); rintro e w' ⟨rfl, rfl⟩))
          go_roundw
          case rel => exact ⟨k + 1, s', by go_num, by omega, HI'.out, HF'.out, T8.out.n⟩
          case measure => simp [intOf]; omega
    · have hlt' : decide (k < l.length) = false := decide_eq_false hlt
      go_wp2_with (go_at_call 5; refine (HA.out _).mono ?_; rintro e w' ⟨rfl, hb⟩)
      go_ret
      exact ⟨rfl, bel_to G1.out hb G1.out.size⟩

theorem QueuePlays_walk (r : Nat) (v : Option Addr) (n c : Nat) (l : List Act19) (b off : Nat) (W : World) (hr : r ≤ 18446744073709551615) (h : l.length = n ∧ InAct19 W v l b off) :
    Calls Try.prog 3 #[.int .u64 (r : Int), .slice v n c] W fun e w' => e = .returned (.bool true) ∧ Below W.heap.size W w' := by
  obtain ⟨rfl, h⟩ := h
  by_cases hf : 200 < l.length
  · exact plays19_long v c b off r l W h hf
  · exact plays19_short v c b off r l W h (by omega) hr

end Go.Proofs.Yteolchbeiidapaa
