/- QueueOrder over this translation: what is taken is what was put and not dropped, in order; no more bytes are in it than it has room. -/
import Derived.Test.YteolchbeiidapaaLaw19a
import Derived.Test.YteolchbeiidapaaWv
import Derived.Test.YteolchbeiidapaaIn19
import Derived.Deep.DeepCutAuto
import Derived.Deep.LoopGhost
import Derived.Laws.StructEq
set_option linter.unusedVariables false
namespace Go.Proofs.Yteolchbeiidapaa
open Go.RowKit

theorem OwnQ.k64 {W w w' : World} {b : Nat} {s : QK} (h : OwnQ W b s w) (k : Keep64 W.heap.size w w') : OwnQ W b s w' :=
  ⟨by
    obtain ⟨rb, g, ⟨h1, q, h2, h3, h4, h5⟩, h6⟩ := h.at_
    exact ⟨rb, g, ⟨k.2 _ _ _ (by decide) h1, q, h2, h3, k.2 _ _ _ (by decide) h4, k.2 _ _ _ (by decide) h5⟩, h6⟩, h.lo, h.bel.trans k.1⟩
theorem OwnQ.win {W w w' : World} {b rb g cap : Nat} {s s' : QK} {ao : Option Addr} {l : List Nat} (h : Win W.heap.size w ao cap l) (hq : QAt w b rb g s) (k : Fr w w' [b, rb, g]) : Win W.heap.size w' ao cap l := by
  obtain ⟨cs, h1⟩ := hq.row.head
  obtain ⟨ds, h2⟩ := hq.row.body
  exact h.other (fun c es hc => hc.fr k (by simp; exact ⟨hc.ty hq.head (by decide), hc.ty h1 (by decide), hc.ty h2 (by decide)⟩))
/-- A queue and a slice of numbers of the call's own. -/
structure OW (W : World) (b : Nat) (s : QK) (ao : Option Addr) (cap : Nat) (l : List Nat) (w : World) : Prop where
  q : OwnQ W b s w
  win : Win W.heap.size w ao cap l
theorem OW.to {W w w' : World} {b cap : Nat} {s : QK} {ao : Option Addr} {l : List Nat} (h : OW W b s ao cap l w) (k : Below w.heap.size w w') : OW W b s ao cap l w' := ⟨h.q.to k, h.win.keep k⟩
theorem ow_Put (W : World) (b cap : Nat) (ao : Option Addr) (l : List Nat) (s s' : QK) (p : Pk) (q : Bool) (hs : s.putQ p = s') (hq : s.putB p = q) (ho : s.ok) (hp : p.size ≤ 18446744073709551615) (hk : s.l.length ≤ 1000) (w : World) (h : OW W b s ao cap l w) :
    Calls Try.prog 9 #[.pointer (some ⟨b, 0, none⟩), p.agg] w fun e w' => e = .returned (.bool q) ∧ Hid (OW W b s' ao cap l w') := by
  obtain ⟨rb, g, h1, h2, h3⟩ := h.q.at_
  subst hs hq
  exact (wq_Put b rb g p s w h1 ho hp hk).mono fun e w' k => ⟨k.e, Lib.hid ⟨h.q.post h1 h2 h3 k, OwnQ.win (s' := s) h.win h1 k.fr⟩⟩
theorem ow_Shift (W : World) (b cap : Nat) (ao : Option Addr) (l : List Nat) (s s' : QK) (x : Pk) (q : Bool) (hs : s.shiftQ = s') (hx : s.headQ = x) (hq : s.someQ = q) (ho : s.ok) (cs : Array Value) (w0 w : World) (h : OW W b s ao cap l w0) (hd : Drawn (w0.alloc (.cells cs 36)) w) :
    Calls Try.prog 7 #[.pointer (some ⟨b, 0, none⟩)] w fun e w' => e = .returned (.tuple #[x.agg, .bool q]) ∧ Hid (OW W b s' ao cap l w') ∧ Hid (Blk w' w0.heap.size 36 cs) := by
  have h' := (h.to (al_be w0 (.cells cs 36))).to (hd.below _)
  obtain ⟨rb, g, h1, h2, h3⟩ := h.q.at_
  have lt := h1.lt
  have k1 : QAt w b rb g s := (h1.keep (al_be w0 (.cells cs 36))).keep (hd.below _)
  have hb : Blk w w0.heap.size 36 cs := hd.blk (Blk.new _ _ _)
  subst hs hx hq
  exact (wq_Shift b rb g s w k1 ho).mono fun e w' k => ⟨k.e, Lib.hid ⟨h'.q.post k1 h2 h3 k, OwnQ.win (s' := s) h'.win k1 k.fr⟩, Lib.hid (hb.fr k.fr (by simp; omega))⟩

/-- What holds at each round's head. -/
structure Ord19 (W : World) (n k room b : Nat) (s : QK) (ao : Option Addr) (cap : Nat) (w : World) : Prop where
  kn : k ≤ n
  ok : s.ok
  le : s.n ≤ s.room
  room : s.room = room
  few : s.l.length ≤ k
  ow : OW W b s ao cap (s.l.map (·.n)) w
theorem put_room {s : QK} {p : Pk} (h : s.n ≤ s.room) (hr : s.room ≤ 18446744073709551615) : (s.putQ p).n ≤ (s.putQ p).room ∧ (s.putQ p).room = s.room := by
  unfold QK.putQ
  split
  · next c => refine ⟨?_, rfl⟩; unfold QK.addQ; dsimp; unfold Pl.addS; unfold Pl.subS at c; omega
  · exact ⟨h, rfl⟩
theorem put_l (s : QK) (p : Pk) : match s.putB p with | true => (s.putQ p).l = s.l ++ [p] | false => (s.putQ p).l = s.l := by
  unfold QK.putB QK.putQ
  by_cases c : p.size ≤ Pl.subS s.room s.n
  · rw [decide_eq_true c, if_pos c]; rfl
  · rw [decide_eq_false c, if_neg c]; rfl
theorem shift_room {s : QK} (h : s.n ≤ s.room) : s.shiftQ.n ≤ s.shiftQ.room ∧ s.shiftQ.room = s.room := ⟨Nat.le_trans (Pl.subS_le _ _) h, rfl⟩
theorem kq_at {W w : World} {b o j : Nat} {v : Value} (hb : b < W.heap.size) (g : Below W.heap.size W w) (h : W.cell? ⟨b, o + j, none⟩ = some v) : w.cell? ⟨b, o + j, none⟩ = some v := (g.cell (p := ⟨b, _, none⟩) hb).trans h
theorem kq_at0 {W w : World} {b o : Nat} {v : Value} (hb : b < W.heap.size) (g : Below W.heap.size W w) (h : W.cell? ⟨b, o, none⟩ = some v) : w.cell? ⟨b, o, none⟩ = some v := (g.cell (p := ⟨b, _, none⟩) hb).trans h

theorem order19_long (v : Option Addr) (c b off r : Nat) (l : List Act19) (W : World) (h : InAct19 W v l b off) (hf : 200 < l.length) :
    Calls Try.prog 4 #[.int .u64 (r : Int), .slice v l.length c] W fun e w' => e = .returned (.bool true) ∧ Below W.heap.size W w' := by
  have HA := Lib.hid (alive19 W)
  have hm := h.1
  have d0 : decide ((200 : Int) < (l.length : Int)) = true := decide_eq_true (by omega)
  have d1 : decide (200 < l.length) = true := decide_eq_true hf
  clear h hf
  go_enter Try.func4, Try.ntmps4
  go_wp2_with (go_at_call 5; refine (HA.out).mono ?_; rintro e w' ⟨rfl, hb⟩)
  go_ret
  exact ⟨rfl, hb⟩

set_option maxRecDepth 100000 in
set_option maxHeartbeats 8000000 in
theorem order19_short (v : Option Addr) (c ab off r : Nat) (l : List Act19) (W : World) (h : InAct19 W v l ab off) (hf : l.length ≤ 200) (hr : r ≤ 18446744073709551615) :
    Calls Try.prog 4 #[.int .u64 (r : Int), .slice v l.length c] W fun e w' => e = .returned (.bool true) ∧ Below W.heap.size W w' := by
  have HL := Lib.hid h
  have HA := Lib.hid alive19
  have HR := Lib.hid hr
  have HF := Lib.hid hf
  have hc : decide (200 < l.length) = false := decide_eq_false (by omega)
  have hc' : decide ((200 : Int) < (l.length : Int)) = false := decide_eq_false (by omega)
  clear h hr
  go_enter Try.func4, Try.ntmps4
  go_wp2_with (go_at_call 6; refine (own_New r _).mono ?_; rintro e w0 ⟨b, rfl, H0⟩)
  go_loopw [7, 6] (fun i u wr => ∃ (k cap : Nat) (ao : Option Addr) (s : QK), i = .int .i64 (k : Int) ∧ u = .slice ao s.l.length cap ∧ Ord19 W l.length k r b s ao cap wr) (fun i _ _ => l.length - (intOf i).toNat)
  case atStart =>
    exact ⟨0, 0, none, QK.start r, rfl, rfl, Nat.zero_le _, QK.start_ok HR.out, Nat.zero_le _, rfl, Nat.le_refl _, H0.out, Win.nil _ _⟩
  case round =>
    obtain ⟨k, cap, ao, s, rfl, rfl, hO⟩ := hrel
    have HO := Lib.hid hO
    have O0 := Lib.hid hO.ow
    clear hO H0
    by_cases hlt : k < l.length
    · have hq := HL.out.2.2 k hlt
      have hB := (HL.out.2.1 (by omega)).2
      obtain rfl := (HL.out.2.1 (by omega)).1
      generalize l.getD k default = q at *
      have HB := Lib.hid hB
      have HQ := Lib.hid hq
      clear hB hq
      have i0 : (0 : Int) ≤ (k : Int) := by omega
      have i1 : (k : Int) < (l.length : Int) := by omega
      have i2 : k ≤ 200 := by omega
      have hwk : IntKind.u64.wrap (k : Int) = (k : Int) := by rw [IntKind.wrap_u64]; omega
      rcases hsl : s.l with _ | ⟨x, t⟩
      · skip
        have hlen : s.l.length = 0 := by rw [hsl]; rfl
        have ehead : s.headQ = (⟨0, 0, 0, 0, 0, 0, false⟩ : Pk) := by unfold QK.headQ; rw [hsl]; rfl
        have esome : s.someQ = false := by unfold QK.someQ; rw [hsl]; rfl
        have HHd := Lib.hid (fun w h => own_Head W b s ⟨0, 0, 0, 0, 0, 0, false⟩ false ehead esome w h)
        have HWn := Lib.hid (show Win W.heap.size wr ao cap ([]) by have := O0.out.win; rw [hsl] at this; exact this)
        have few := HO.out.few
        simp only [List.length_nil]
        go_wp2_with fail
        refine (HHd.out wr O0.out.q).mono ?_
        rintro e w1 ⟨rfl, hb⟩
        have O1 := Lib.hid (O0.out.to hb)
        have HWn1 := Lib.hid (HWn.out.keep hb)
        clear hb O0 HWn 
        unfold Pk.agg
        go_upto_region 9 with fail
        have B2 := Lib.hid (Blk.new w1 36 #[.int .u64 0, .int .u64 0, .int .u64 0, .int .u64 0, .int .u64 0, .int .u64 0, .bool false])
        have O2 := Lib.hid (O1.out.to (al_be w1 (.cells #[.int .u64 0, .int .u64 0, .int .u64 0, .int .u64 0, .int .u64 0, .int .u64 0, .bool false] 36)))
        have z0 := B2.out.cell (i := 0) (v := .int .u64 0) rfl
        obtain ⟨w2, hw2⟩ : ∃ w2, w1.alloc (.cells #[.int .u64 0, .int .u64 0, .int .u64 0, .int .u64 0, .int .u64 0, .int .u64 0, .bool false] 36) = w2 := ⟨_, rfl⟩
        have HW2 := Lib.hid hw2
        rw [hw2] at B2 O2 z0  ⊢
        clear hw2
        go_wp2_with fail
        go_quiet (fail)
        have HD := Lib.hid (show Drawn w2 (w2.drewN nq) from ⟨nq, rfl⟩)
        have O3 := Lib.hid (O2.out.to (HD.out.below _))
        generalize w2.drewN nq = w3 at *
        have c0 := kq_at0 HB.out O3.out.q.bel HQ.out.k0
        have c1 := kq_at HB.out O3.out.q.bel HQ.out.k1
        cases hqt : q.take with
        | true =>
          rw [hqt] at c0
          have HSh := Lib.hid (fun s' hs => ow_Shift W b cap ao (s.l.map (·.n)) s s' ⟨0, 0, 0, 0, 0, 0, false⟩ false hs ehead esome HO.out.ok #[.int .u64 0, .int .u64 0, .int .u64 0, .int .u64 0, .int .u64 0, .int .u64 0, .bool false] w1 w3 O1.out (by rw [HW2.out]; exact HD.out))
          have Hl' : Hid (s.shiftQ.l = []) := Lib.hid (by show s.l.drop 1 = _; rw [hsl]; rfl)
          have Hok := Lib.hid (QK.shift_ok HO.out.ok)
          have Hle := Lib.hid (shift_room HO.out.le)
          have EM : Hid (s.l.map (·.n) = []) := Lib.hid (by rw [hsl]; rfl)
          have HSh := Lib.hid (HSh.out _ rfl)
          rw [EM.out] at HSh
          generalize s.shiftQ = s' at *
          clear O3 c1 O2 B2 z0 HD ehead esome HHd hsl hlen 
          go_wp2_with fail
          refine HSh.out.mono ?_
          rintro e w4 ⟨rfl, O4, B4⟩
          unfold Pk.agg
          go_upto_region 13 with fail
          have B5 := Lib.hid (Blk.new w4 36 #[.int .u64 0, .int .u64 0, .int .u64 0, .int .u64 0, .int .u64 0, .int .u64 0, .bool false])
          have B6 := Lib.hid (B4.out.keep (al_be w4 (.cells #[.int .u64 0, .int .u64 0, .int .u64 0, .int .u64 0, .int .u64 0, .int .u64 0, .bool false] 36)))
          have O5 := Lib.hid (O4.out.to (al_be w4 (.cells #[.int .u64 0, .int .u64 0, .int .u64 0, .int .u64 0, .int .u64 0, .int .u64 0, .bool false] 36)))
          clear O4 B4 O1 HSh
          generalize (w4.alloc (.cells #[.int .u64 0, .int .u64 0, .int .u64 0, .int .u64 0, .int .u64 0, .int .u64 0, .bool false] 36)) = w5 at *
          generalize w4.heap.size = n5 at *
          have y0 := B5.out.cell (i := 0) (v := .int .u64 0) rfl
          have y1 := B5.out.cell (i := 1) (v := .int .u64 0) rfl
          have y2 := B5.out.cell (i := 2) (v := .int .u64 0) rfl
          have y3 := B5.out.cell (i := 3) (v := .int .u64 0) rfl
          have y4 := B5.out.cell (i := 4) (v := .int .u64 0) rfl
          have y5 := B5.out.cell (i := 5) (v := .int .u64 0) rfl
          have y6 := B5.out.cell (i := 6) (v := .bool false) rfl
          have h0 := B6.out.cell (i := 0) (v := .int .u64 0) rfl
          have h1 := B6.out.cell (i := 1) (v := .int .u64 0) rfl
          have h2 := B6.out.cell (i := 2) (v := .int .u64 0) rfl
          have h3 := B6.out.cell (i := 3) (v := .int .u64 0) rfl
          have h4 := B6.out.cell (i := 4) (v := .int .u64 0) rfl
          have h5 := B6.out.cell (i := 5) (v := .int .u64 0) rfl
          have h6 := B6.out.cell (i := 6) (v := .bool false) rfl
          go_wp2_with fail
          go_roundw
          case rel => exact ⟨k + 1, cap, ao, s', by go_num, by rw [Hl'.out] <;> rfl, by omega, Hok.out, Hle.out.1, Hle.out.2.trans HO.out.room, by rw [Hl'.out]; (try simp); (try omega), ⟨O5.out.q, by rw [Hl'.out]; exact O5.out.win⟩⟩
          case measure => simp [intOf]; omega
        | false =>
          rw [hqt] at c0
          have Hn := Lib.hid HO.out.ok.n
          have Hrm := Lib.hid HO.out.room
          have hnr : s.n ≤ r := by rw [← Hrm.out]; exact HO.out.le
          have d1 : decide (s.n ≤ r) = true := decide_eq_true hnr
          have z1 : (r : Int) - (s.n : Int) = ((r - s.n : Nat) : Int) := by omega
          have z2 : IntKind.u64.wrap ((r - s.n : Nat) : Int) = ((r - s.n : Nat) : Int) := by have := HR.out; rw [IntKind.wrap_u64]; omega
          have HBy : Hid (∀ n, Calls Try.prog 14 #[.pointer (some ⟨b, 0, none⟩)] (w3.drewN n) fun e w' => e = .returned (.int .u64 (s.n : Int)) ∧ w' = w3.drewN n) := Lib.hid (fun n => (own_Bytes W b s _ (O3.out.q.to ((show Drawn w3 (w3.drewN n) from ⟨n, rfl⟩).below _))).mono fun _ _ k => ⟨k.1, k.2.symm⟩)
          have hlm : (s.l.map (·.n)).length = 0 := by rw [List.length_map, hlen]
          have HPt := Lib.hid (fun s' hs f hf => ow_Put W b cap ao (s.l.map (·.n)) s s' ⟨k, q.size, 0, 0, 0, 0, false⟩ f hs hf HO.out.ok HQ.out.b1 (by have := HO.out.few; omega))
          have Hok := Lib.hid (QK.put_ok (p := ⟨k, q.size, 0, 0, 0, 0, false⟩) HO.out.ok HQ.out.b1)
          have Hle := Lib.hid (put_room (p := ⟨k, q.size, 0, 0, 0, 0, false⟩) HO.out.le HO.out.ok.room)
          have hpb : s.putB ⟨k, q.size, 0, 0, 0, 0, false⟩ = decide (q.size ≤ r - s.n) := by rw [← Hrm.out]; rfl
          have HLq := Lib.hid (put_l s ⟨k, q.size, 0, 0, 0, 0, false⟩)
          rw [hpb] at HLq
          have HPt := Lib.hid (HPt.out _ rfl _ hpb)
          have HFw := Lib.hid few
          clear O1 O2 B2 z0 HD ehead esome HHd hsl hlen hpb few HW2 
          generalize hs' : s.putQ ⟨k, q.size, 0, 0, 0, 0, false⟩ = s' at *
          clear hs'
          have e2 : decide (r < s'.n) = false := decide_eq_false (by have := Hle.out; have := Hrm.out; omega)
          generalize r - s.n = y at *
          clear hnr
          cases hf : decide (q.size ≤ y) with
          | true =>
            rw [hf] at HPt HLq
            have Hl' : Hid (s'.l = s.l ++ [⟨k, q.size, 0, 0, 0, 0, false⟩]) := Lib.hid HLq.out
            go_wp2_with fail
            go_quiet (first | (go_at_call 14; exact Calls.quiet_of_same (HBy.out _)))
            have O4 := Lib.hid (O3.out.to ((show Drawn w3 (w3.drewN nq) from ⟨nq, rfl⟩).below _))
            have c1 := kq_at HB.out O4.out.q.bel HQ.out.k1
            generalize w3.drewN nq = w4 at *
            clear O3 HBy c0
            go_wp2_with fail
            refine (HPt.out _ O4.out).mono ?_
            rintro e w5 ⟨rfl, O5⟩
            have O6 := Lib.hid (O5.out.to (al_be w5 (.cells #[.int .u64 (k : Int)] 22)))
            have HX := Lib.hid (nc1' w5 k 22)
            have HS : Hid (W.heap.size ≤ (w5.alloc (.cells #[.int .u64 (k : Int)] 22)).heap.size) := Lib.hid O6.out.q.bel.size
            clear O4 O5 c1 HPt
            go_wp2_with (at_builtin; (refine wpList_append_win rfl _ _ (by rfl) W.heap.size cap k 1 ao (s.l.map (·.n)) 0 hlm (by rfl) O6.out.win ⟨w5.heap.size, 0, none⟩ (by rfl) HX.out HS.out (by have := HF.out; have := HFw.out; omega) ?_); intro ao' cap' w6 hwin hk6; have O7 := Lib.hid (show OW W b s' ao' cap' (s.l.map (·.n) ++ [k]) w6 from ⟨O6.out.q.k64 hk6, hwin⟩); clear hwin hk6)
            refine (own_Bytes W b s' _ O7.out.q).mono ?_
            rintro e w7 ⟨rfl, rfl⟩
            go_wp2_with fail
            go_roundw
            case rel =>
              have hlen : s.l.length = 0 := by simpa using hlm
              have hl2 : s'.l.length = 1 := by rw [Hl'.out, List.length_append, hlen]; rfl
              exact ⟨k + 1, cap', ao', s', by go_num, by rw [hl2] <;> first | rfl | go_num, by omega, Hok.out, Hle.out.1, Hle.out.2.trans Hrm.out, by rw [hl2]; have := HFw.out; omega, ⟨O7.out.q, by rw [Hl'.out, List.map_append]; exact O7.out.win⟩⟩
            case measure => simp [intOf]; omega
          | false =>
            rw [hf] at HPt HLq
            have Hl' : Hid (s'.l = s.l) := Lib.hid HLq.out
            go_wp2_with fail
            go_quiet (first | (go_at_call 14; exact Calls.quiet_of_same (HBy.out _)))
            have O4 := Lib.hid (O3.out.to ((show Drawn w3 (w3.drewN nq) from ⟨nq, rfl⟩).below _))
            have c1 := kq_at HB.out O4.out.q.bel HQ.out.k1
            generalize w3.drewN nq = w4 at *
            clear O3 HBy c0
            go_wp2_with fail
            refine (HPt.out _ O4.out).mono ?_
            rintro e w5 ⟨rfl, O7⟩
            clear O4 c1 HPt
            go_wp2_with fail
            refine (own_Bytes W b s' _ O7.out.q).mono ?_
            rintro e w7 ⟨rfl, rfl⟩
            go_wp2_with fail
            go_roundw
            case rel =>
              have hlen : s.l.length = 0 := by simpa using hlm
              have hl2 : s'.l.length = 0 := by rw [Hl'.out, hlen]
              exact ⟨k + 1, cap, ao, s', by go_num, by rw [hl2] <;> first | rfl | go_num, by omega, Hok.out, Hle.out.1, Hle.out.2.trans Hrm.out, by rw [hl2]; have := HFw.out; omega, ⟨O7.out.q, by rw [Hl'.out]; exact O7.out.win⟩⟩
            case measure => simp [intOf]; omega
      · skip
        have hlen : s.l.length = t.length + 1 := by rw [hsl]; rfl
        have ehead : s.headQ = x := by unfold QK.headQ; rw [hsl]; rfl
        have esome : s.someQ = true := by unfold QK.someQ; rw [hsl]; rfl
        have HHd := Lib.hid (fun w h => own_Head W b s x true ehead esome w h)
        have HWn := Lib.hid (show Win W.heap.size wr ao cap (x.n :: t.map (·.n)) by have := O0.out.win; rw [hsl] at this; exact this)
        have few := HO.out.few
        rw [hlen] at few
        obtain ⟨wg, wo, rfl, wc, wpos⟩ := HWn.out.cons
        simp only [List.length_cons]
        go_wp2_with fail
        refine (HHd.out wr O0.out.q).mono ?_
        rintro e w1 ⟨rfl, hb⟩
        have O1 := Lib.hid (O0.out.to hb)
        have HWn1 := Lib.hid (HWn.out.keep hb)
        have wc1 := (hb.cell (World.block_lt_of_cell? _ _ wc)).trans wc
        clear hb O0 HWn wc
        unfold Pk.agg
        go_upto_region 9 with fail
        have B2 := Lib.hid (Blk.new w1 36 #[.int .u64 (x.n : Int), .int .u64 (x.size : Int), .int .u64 (x.sent : Int), .int .u64 (x.first : Int), .int .u64 (x.deliv : Int), .int .u64 (x.at_ : Int), .bool x.lim])
        have O2 := Lib.hid (O1.out.to (al_be w1 (.cells #[.int .u64 (x.n : Int), .int .u64 (x.size : Int), .int .u64 (x.sent : Int), .int .u64 (x.first : Int), .int .u64 (x.deliv : Int), .int .u64 (x.at_ : Int), .bool x.lim] 36)))
        have z0 := B2.out.cell (i := 0) (v := .int .u64 (x.n : Int)) rfl
        have wc2 := cell_al wc1 (.cells #[.int .u64 (x.n : Int), .int .u64 (x.size : Int), .int .u64 (x.sent : Int), .int .u64 (x.first : Int), .int .u64 (x.deliv : Int), .int .u64 (x.at_ : Int), .bool x.lim] 36)
        obtain ⟨w2, hw2⟩ : ∃ w2, w1.alloc (.cells #[.int .u64 (x.n : Int), .int .u64 (x.size : Int), .int .u64 (x.sent : Int), .int .u64 (x.first : Int), .int .u64 (x.deliv : Int), .int .u64 (x.at_ : Int), .bool x.lim] 36) = w2 := ⟨_, rfl⟩
        have HW2 := Lib.hid hw2
        rw [hw2] at B2 O2 z0 wc2 ⊢
        clear hw2
        go_wp2_with fail
        go_quiet (fail)
        have HD := Lib.hid (show Drawn w2 (w2.drewN nq) from ⟨nq, rfl⟩)
        have O3 := Lib.hid (O2.out.to (HD.out.below _))
        generalize w2.drewN nq = w3 at *
        have c0 := kq_at0 HB.out O3.out.q.bel HQ.out.k0
        have c1 := kq_at HB.out O3.out.q.bel HQ.out.k1
        cases hqt : q.take with
        | true =>
          rw [hqt] at c0
          have HSh := Lib.hid (fun s' hs => ow_Shift W b cap (some ⟨wg, wo, none⟩) (s.l.map (·.n)) s s' x true hs ehead esome HO.out.ok #[.int .u64 (x.n : Int), .int .u64 (x.size : Int), .int .u64 (x.sent : Int), .int .u64 (x.first : Int), .int .u64 (x.deliv : Int), .int .u64 (x.at_ : Int), .bool x.lim] w1 w3 O1.out (by rw [HW2.out]; exact HD.out))
          have Hl' : Hid (s.shiftQ.l = t) := Lib.hid (by show s.l.drop 1 = _; rw [hsl]; rfl)
          have Hok := Lib.hid (QK.shift_ok HO.out.ok)
          have Hle := Lib.hid (shift_room HO.out.le)
          have EM : Hid (s.l.map (·.n) = x.n :: t.map (·.n)) := Lib.hid (by rw [hsl]; rfl)
          have HSh := Lib.hid (HSh.out _ rfl)
          rw [EM.out] at HSh
          generalize s.shiftQ = s' at *
          clear O3 c1 O2 B2 z0 HD ehead esome HHd hsl hlen wc1 wc2
          go_wp2_with fail
          refine HSh.out.mono ?_
          rintro e w4 ⟨rfl, O4, B4⟩
          unfold Pk.agg
          go_upto_region 13 with fail
          have B5 := Lib.hid (Blk.new w4 36 #[.int .u64 (x.n : Int), .int .u64 (x.size : Int), .int .u64 (x.sent : Int), .int .u64 (x.first : Int), .int .u64 (x.deliv : Int), .int .u64 (x.at_ : Int), .bool x.lim])
          have B6 := Lib.hid (B4.out.keep (al_be w4 (.cells #[.int .u64 (x.n : Int), .int .u64 (x.size : Int), .int .u64 (x.sent : Int), .int .u64 (x.first : Int), .int .u64 (x.deliv : Int), .int .u64 (x.at_ : Int), .bool x.lim] 36)))
          have O5 := Lib.hid (O4.out.to (al_be w4 (.cells #[.int .u64 (x.n : Int), .int .u64 (x.size : Int), .int .u64 (x.sent : Int), .int .u64 (x.first : Int), .int .u64 (x.deliv : Int), .int .u64 (x.at_ : Int), .bool x.lim] 36)))
          clear O4 B4 O1 HSh
          generalize (w4.alloc (.cells #[.int .u64 (x.n : Int), .int .u64 (x.size : Int), .int .u64 (x.sent : Int), .int .u64 (x.first : Int), .int .u64 (x.deliv : Int), .int .u64 (x.at_ : Int), .bool x.lim] 36)) = w5 at *
          generalize w4.heap.size = n5 at *
          have y0 := B5.out.cell (i := 0) (v := .int .u64 (x.n : Int)) rfl
          have y1 := B5.out.cell (i := 1) (v := .int .u64 (x.size : Int)) rfl
          have y2 := B5.out.cell (i := 2) (v := .int .u64 (x.sent : Int)) rfl
          have y3 := B5.out.cell (i := 3) (v := .int .u64 (x.first : Int)) rfl
          have y4 := B5.out.cell (i := 4) (v := .int .u64 (x.deliv : Int)) rfl
          have y5 := B5.out.cell (i := 5) (v := .int .u64 (x.at_ : Int)) rfl
          have y6 := B5.out.cell (i := 6) (v := .bool x.lim) rfl
          have h0 := B6.out.cell (i := 0) (v := .int .u64 (x.n : Int)) rfl
          have h1 := B6.out.cell (i := 1) (v := .int .u64 (x.size : Int)) rfl
          have h2 := B6.out.cell (i := 2) (v := .int .u64 (x.sent : Int)) rfl
          have h3 := B6.out.cell (i := 3) (v := .int .u64 (x.first : Int)) rfl
          have h4 := B6.out.cell (i := 4) (v := .int .u64 (x.deliv : Int)) rfl
          have h5 := B6.out.cell (i := 5) (v := .int .u64 (x.at_ : Int)) rfl
          have h6 := B6.out.cell (i := 6) (v := .bool x.lim) rfl
          have l1 : (1 : Int) ≤ ((t.length + 1 : Nat) : Int) := by omega
          have lc : t.length + 1 ≤ cap := by have := O5.out.win.le; simpa using this
          have lm : cap ≤ 9223372036854775807 := O5.out.win.max
          have e1 : ((t.length : Int) + 1) - 1 = (t.length : Int) := by omega
          by_cases c1 : cap = 1
          · subst c1
            have ht : t = [] := List.eq_nil_of_length_eq_zero (by omega)
            subst ht
            have Wt := Lib.hid O5.out.win.tail0
            go_wp2_with fail
            go_roundw
            case rel => exact ⟨k + 1, 0, (some ⟨wg, wo, none⟩), s', by go_num, by rw [Hl'.out] <;> rfl, by omega, Hok.out, Hle.out.1, Hle.out.2.trans HO.out.room, by rw [Hl'.out]; (try simp); (try omega), ⟨O5.out.q, by rw [Hl'.out]; exact Wt.out⟩⟩
            case measure => simp [intOf]; omega
          · have Wt := Lib.hid O5.out.win.tail
            go_wp2_with fail
            go_roundw
            case rel => exact ⟨k + 1, (cap - 1), (some ⟨wg, wo + 1, none⟩), s', by go_num, by rw [Hl'.out] <;> go_num, by omega, Hok.out, Hle.out.1, Hle.out.2.trans HO.out.room, by rw [Hl'.out]; (try simp); (try omega), ⟨O5.out.q, by rw [Hl'.out]; exact Wt.out⟩⟩
            case measure => simp [intOf]; omega
        | false =>
          rw [hqt] at c0
          have Hn := Lib.hid HO.out.ok.n
          have Hrm := Lib.hid HO.out.room
          have hnr : s.n ≤ r := by rw [← Hrm.out]; exact HO.out.le
          have d1 : decide (s.n ≤ r) = true := decide_eq_true hnr
          have z1 : (r : Int) - (s.n : Int) = ((r - s.n : Nat) : Int) := by omega
          have z2 : IntKind.u64.wrap ((r - s.n : Nat) : Int) = ((r - s.n : Nat) : Int) := by have := HR.out; rw [IntKind.wrap_u64]; omega
          have HBy : Hid (∀ n, Calls Try.prog 14 #[.pointer (some ⟨b, 0, none⟩)] (w3.drewN n) fun e w' => e = .returned (.int .u64 (s.n : Int)) ∧ w' = w3.drewN n) := Lib.hid (fun n => (own_Bytes W b s _ (O3.out.q.to ((show Drawn w3 (w3.drewN n) from ⟨n, rfl⟩).below _))).mono fun _ _ k => ⟨k.1, k.2.symm⟩)
          have hlm : (s.l.map (·.n)).length = t.length + 1 := by rw [List.length_map, hlen]
          have HPt := Lib.hid (fun s' hs f hf => ow_Put W b cap (some ⟨wg, wo, none⟩) (s.l.map (·.n)) s s' ⟨k, q.size, 0, 0, 0, 0, false⟩ f hs hf HO.out.ok HQ.out.b1 (by have := HO.out.few; omega))
          have Hok := Lib.hid (QK.put_ok (p := ⟨k, q.size, 0, 0, 0, 0, false⟩) HO.out.ok HQ.out.b1)
          have Hle := Lib.hid (put_room (p := ⟨k, q.size, 0, 0, 0, 0, false⟩) HO.out.le HO.out.ok.room)
          have hpb : s.putB ⟨k, q.size, 0, 0, 0, 0, false⟩ = decide (q.size ≤ r - s.n) := by rw [← Hrm.out]; rfl
          have HLq := Lib.hid (put_l s ⟨k, q.size, 0, 0, 0, 0, false⟩)
          rw [hpb] at HLq
          have HPt := Lib.hid (HPt.out _ rfl _ hpb)
          have HFw := Lib.hid few
          clear O1 O2 B2 z0 HD ehead esome HHd hsl hlen hpb few HW2 wc1 wc2
          generalize hs' : s.putQ ⟨k, q.size, 0, 0, 0, 0, false⟩ = s' at *
          clear hs'
          have e2 : decide (r < s'.n) = false := decide_eq_false (by have := Hle.out; have := Hrm.out; omega)
          generalize r - s.n = y at *
          clear hnr
          cases hf : decide (q.size ≤ y) with
          | true =>
            rw [hf] at HPt HLq
            have Hl' : Hid (s'.l = s.l ++ [⟨k, q.size, 0, 0, 0, 0, false⟩]) := Lib.hid HLq.out
            go_wp2_with fail
            go_quiet (first | (go_at_call 14; exact Calls.quiet_of_same (HBy.out _)))
            have O4 := Lib.hid (O3.out.to ((show Drawn w3 (w3.drewN nq) from ⟨nq, rfl⟩).below _))
            have c1 := kq_at HB.out O4.out.q.bel HQ.out.k1
            generalize w3.drewN nq = w4 at *
            clear O3 HBy c0
            go_wp2_with fail
            refine (HPt.out _ O4.out).mono ?_
            rintro e w5 ⟨rfl, O5⟩
            have O6 := Lib.hid (O5.out.to (al_be w5 (.cells #[.int .u64 (k : Int)] 22)))
            have HX := Lib.hid (nc1' w5 k 22)
            have HS : Hid (W.heap.size ≤ (w5.alloc (.cells #[.int .u64 (k : Int)] 22)).heap.size) := Lib.hid O6.out.q.bel.size
            clear O4 O5 c1 HPt
            go_wp2_with (at_builtin; (refine wpList_append_win rfl _ _ (by rfl) W.heap.size cap k 1 (some ⟨wg, wo, none⟩) (s.l.map (·.n)) (t.length + 1) hlm (by rfl) O6.out.win ⟨w5.heap.size, 0, none⟩ (by rfl) HX.out HS.out (by have := HF.out; have := HFw.out; omega) ?_); intro ao' cap' w6 hwin hk6; have O7 := Lib.hid (show OW W b s' ao' cap' (s.l.map (·.n) ++ [k]) w6 from ⟨O6.out.q.k64 hk6, hwin⟩); clear hwin hk6)
            refine (own_Bytes W b s' _ O7.out.q).mono ?_
            rintro e w7 ⟨rfl, rfl⟩
            go_wp2_with fail
            go_roundw
            case rel =>
              have hlen : s.l.length = t.length + 1 := by simpa using hlm
              have hl2 : s'.l.length = t.length + 1 + 1 := by rw [Hl'.out, List.length_append, hlen]; rfl
              exact ⟨k + 1, cap', ao', s', by go_num, by rw [hl2] <;> first | rfl | go_num, by omega, Hok.out, Hle.out.1, Hle.out.2.trans Hrm.out, by rw [hl2]; have := HFw.out; omega, ⟨O7.out.q, by rw [Hl'.out, List.map_append]; exact O7.out.win⟩⟩
            case measure => simp [intOf]; omega
          | false =>
            rw [hf] at HPt HLq
            have Hl' : Hid (s'.l = s.l) := Lib.hid HLq.out
            go_wp2_with fail
            go_quiet (first | (go_at_call 14; exact Calls.quiet_of_same (HBy.out _)))
            have O4 := Lib.hid (O3.out.to ((show Drawn w3 (w3.drewN nq) from ⟨nq, rfl⟩).below _))
            have c1 := kq_at HB.out O4.out.q.bel HQ.out.k1
            generalize w3.drewN nq = w4 at *
            clear O3 HBy c0
            go_wp2_with fail
            refine (HPt.out _ O4.out).mono ?_
            rintro e w5 ⟨rfl, O7⟩
            clear O4 c1 HPt
            go_wp2_with fail
            refine (own_Bytes W b s' _ O7.out.q).mono ?_
            rintro e w7 ⟨rfl, rfl⟩
            go_wp2_with fail
            go_roundw
            case rel =>
              have hlen : s.l.length = t.length + 1 := by simpa using hlm
              have hl2 : s'.l.length = t.length + 1 := by rw [Hl'.out, hlen]
              exact ⟨k + 1, cap, some ⟨wg, wo, none⟩, s', by go_num, by rw [hl2] <;> first | rfl | go_num, by omega, Hok.out, Hle.out.1, Hle.out.2.trans Hrm.out, by rw [hl2]; have := HFw.out; omega, ⟨O7.out.q, by rw [Hl'.out]; exact O7.out.win⟩⟩
            case measure => simp [intOf]; omega
    · have hlt' : decide (k < l.length) = false := decide_eq_false hlt
      have G0 := Lib.hid O0.out.q.bel
      clear O0 HO HL
      go_wp2_with fail
      refine (wn_Head _).mono ?_
      rintro e w1 ⟨rfl, hb⟩
      have G1 := Lib.hid (bel_to G0.out hb G0.out.size)
      clear hb G0
      unfold pkgot Pk.agg
      go_upto_region 25 with fail
      have G2 := Lib.hid (bel_to G1.out (al_be w1 (.cells #[.int .u64 0, .int .u64 0, .int .u64 0, .int .u64 0, .int .u64 0, .int .u64 0, .bool false] 36)) G1.out.size)
      change Code.wp _ _ _ _ (w1.alloc (.cells #[.int .u64 0, .int .u64 0, .int .u64 0, .int .u64 0, .int .u64 0, .int .u64 0, .bool false] 36))
      generalize w1.alloc (.cells #[.int .u64 0, .int .u64 0, .int .u64 0, .int .u64 0, .int .u64 0, .int .u64 0, .bool false] 36) = w2 at *
      go_wp2_with fail
      refine (wn_Shift _).mono ?_
      rintro e w3 ⟨rfl, hb⟩
      have G3 := Lib.hid (bel_to G2.out hb G2.out.size)
      clear hb G1 G2
      unfold pkgot Pk.agg
      go_upto_region 26 with fail
      have G4 := Lib.hid (bel_to G3.out (al_be w3 (.cells #[.int .u64 0, .int .u64 0, .int .u64 0, .int .u64 0, .int .u64 0, .int .u64 0, .bool false] 36)) G3.out.size)
      change Code.wp _ _ _ _ (w3.alloc (.cells #[.int .u64 0, .int .u64 0, .int .u64 0, .int .u64 0, .int .u64 0, .int .u64 0, .bool false] 36))
      generalize w3.alloc (.cells #[.int .u64 0, .int .u64 0, .int .u64 0, .int .u64 0, .int .u64 0, .int .u64 0, .bool false] 36) = w4 at *
      go_wp2_with (first
        | (go_at_call 11; refine (wn_Dropped _).mono ?_; rintro e w' ⟨rfl, rfl⟩)
        | (go_at_call 5; refine (HA.out _).mono ?_; rintro e w5 ⟨rfl, hb⟩; have G5 := Lib.hid (bel_to G4.out hb G4.out.size); clear hb)
        | (go_at_call 14; refine (wn_Bytes _).mono ?_; rintro e w' ⟨rfl, rfl⟩)
        | (go_at_call 9; refine (wn_Put _ _).mono ?_; rintro e w6 ⟨rfl, hb⟩; have G6 := Lib.hid (bel_to G5.out hb G5.out.size); clear hb)
        | (go_at_call 12; refine (wn_All _).mono ?_; rintro e w' ⟨rfl, rfl⟩))
      go_ret
      exact ⟨rfl, G6.out⟩

theorem QueueOrder_walk (r : Nat) (v : Option Addr) (n c : Nat) (l : List Act19) (b off : Nat) (W : World) (hr : r ≤ 18446744073709551615) (h : l.length = n ∧ InAct19 W v l b off) :
    Calls Try.prog 4 #[.int .u64 (r : Int), .slice v n c] W fun e w' => e = .returned (.bool true) ∧ Below W.heap.size W w' := by
  obtain ⟨rfl, h⟩ := h
  by_cases hf : 200 < l.length
  · exact order19_long v c b off r l W h hf
  · exact order19_short v c b off r l W h (by omega) hr

end Go.Proofs.Yteolchbeiidapaa
