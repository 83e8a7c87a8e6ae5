/- JitterLate over this translation: what comes out comes in order, each not ahead of the delay behind its time, due at most by the jitter later; none stays. -/
import Derived.Test.YtlhgiboajnhahaaLaw20a
import Derived.Test.YtlhgiboajnhahaaIn20
import Derived.Deep.DeepCutAuto
import Derived.Deep.LoopGhost
import Derived.Laws.StructEq
set_option linter.unusedVariables false
namespace Go.Proofs.Ytlhgiboajnhahaa
open Go.RowKit

theorem jt_at {W w : World} {b o j : Nat} {v : Value} (hb : b < W.heap.size) (g : Below W.heap.size W w) (h : W.cell? ⟨b, o + j, none⟩ = some v) : w.cell? ⟨b, o + j, none⟩ = some v := (g.cell (p := ⟨b, _, none⟩) hb).trans h
theorem jt_at0 {W w : World} {b o : Nat} {v : Value} (hb : b < W.heap.size) (g : Below W.heap.size W w) (h : W.cell? ⟨b, o, none⟩ = some v) : w.cell? ⟨b, o, none⟩ = some v := (g.cell (p := ⟨b, _, none⟩) hb).trans h
/-- What a box keeps: its packets bear the numbers from nx on, up to k; none is due later than by the jitter. -/
structure LtJ (d j now nx k : Nat) (s : BxS) : Prop where
  ok : s.ok
  de : s.delay = d
  ji : s.jit = j
  la : s.last ≤ now + d + j
  du : ∀ x ∈ s.l, x.due ≤ s.last
  ns : s.l.map (fun x => x.p.n) = List.range' nx s.l.length
  ct : nx + s.l.length = k
theorem LtJ.start {d j : Nat} (h : d ≤ 1099511627776) (k : j ≤ 1099511627776) : LtJ d j 0 0 0 (BxS.start d j) := ⟨BxS.start_ok (by omega) (by omega), rfl, rfl, Nat.zero_le _, (fun x hx => absurd hx (by simp [BxS.start])), rfl, rfl⟩
theorem LtJ.due {d j now nx k now' ch : Nat} {s : BxS} (h : LtJ d j now nx k s) (hd : d ≤ 1099511627776) (hj : j ≤ 1099511627776) (h1 : now ≤ now') (h2 : now' ≤ 1099511627776) : now' + d ≤ s.dueB now' ch ∧ s.dueB now' ch ≤ now' + d + j := by
  have := h.la
  unfold BxS.dueB BxS.ownT Pl.addS
  rw [h.de, h.ji]
  omega
theorem LtJ.put {d j now nx k now' ch : Nat} {s : BxS} (h : LtJ d j now nx k s) (hd : d ≤ 1099511627776) (hj : j ≤ 1099511627776) (h1 : now ≤ now') (h2 : now' ≤ 1099511627776) : LtJ d j now' nx (k + 1) (s.putB ⟨k, 0, 0, 0, 0, 0, false⟩ now' ch) := by
  have ct := h.ct
  refine ⟨BxS.put_ok h.ok _ now' ch, h.de, h.ji, (h.due hd hj h1 h2).2, fun x hx => ?_, ?_, by rw [BxS.put_len]; omega⟩
  · have e : s.last ≤ s.dueB now' ch := by unfold BxS.dueB; omega
    rcases List.mem_append.1 hx with c | c
    · exact Nat.le_trans (h.du x c) e
    · rw [List.mem_singleton.1 c]; exact Nat.le_refl _
  · rw [BxS.put_len, List.range'_concat]
    show (s.l ++ _).map _ = _
    rw [List.map_append, h.ns]
    simp
    omega
theorem LtJ.split {d j now nx k : Nat} {s : BxS} (h : LtJ d j now nx k s) (t : Nat) : (s.told t).map (·.n) = List.range' nx (s.told t).length ∧ LtJ d j now (nx + (s.told t).length) k (s.outB t) := by
  have e : s.l.takeWhile (isDue t) ++ s.l.dropWhile (isDue t) = s.l := List.takeWhile_append_dropWhile
  have ln : (s.told t).length = (s.l.takeWhile (isDue t)).length := by unfold BxS.told; rw [List.length_map]
  have hl : s.l.length = (s.l.takeWhile (isDue t)).length + (s.l.dropWhile (isDue t)).length := by rw [← List.length_append, e]
  have hn := h.ns
  rw [hl, ← List.range'_append_1, ← congrArg (List.map (fun x : Jp => x.p.n)) e, List.map_append] at hn
  obtain ⟨e1, e2⟩ := List.append_inj hn (by simp)
  have ct := h.ct
  refine ⟨?_, ⟨BxS.out_ok h.ok t, h.de, h.ji, h.la, fun x hx => h.du x ((List.dropWhile_sublist _).subset hx), ?_, ?_⟩⟩
  · rw [ln, ← e1]; unfold BxS.told; rw [List.map_map]; rfl
  · rw [ln]; exact e2
  · rw [ln]; show _ + (s.l.dropWhile (isDue t)).length = _; omega
theorem tw_all {f : Jp → Bool} : ∀ {l : List Jp}, (∀ x ∈ l, f x = true) → l.takeWhile f = l
  | [], _ => rfl
  | x :: t, h => by rw [List.takeWhile_cons, h x (by simp), tw_all (fun y hy => h y (by simp [hy]))]; rfl
theorem LtJ.all {d j now nx k t : Nat} {s : BxS} (h : LtJ d j now nx k s) (ht : s.last ≤ t) : (s.told t).length = s.l.length ∧ (s.outB t).l = [] := by
  have e : s.l.takeWhile (isDue t) ++ s.l.dropWhile (isDue t) = s.l := List.takeWhile_append_dropWhile
  have e1 : s.l.takeWhile (isDue t) = s.l := tw_all (fun x hx => decide_eq_true (Nat.le_trans (h.du x hx) ht))
  rw [e1] at e
  have e2 : s.l.dropWhile (isDue t) = [] := by simpa using e
  exact ⟨by unfold BxS.told; rw [e1, List.length_map], e2⟩
theorem nth_n {l : List Pk} {nx : Nat} (h : l.map (·.n) = List.range' nx l.length) {i : Nat} (hi : i < l.length) : (l.getD i Itm.z).n = nx + i := by
  have := congrArg (fun q => q[i]?) h
  simp only [List.getElem?_map, List.getElem?_range' hi] at this
  rw [List.getD_eq_getElem?_getD]
  rw [List.getElem?_eq_getElem hi] at this ⊢
  simpa using this
/-- What holds at each round's head. -/
structure Lt20 (W : World) (n k d j now nx b : Nat) (s : BxS) (w : World) : Prop where
  kn : k ≤ n
  nw : now ≤ 1099511627776
  hs : LtJ d j now nx k s
  ow : OwnBx W b s w

theorem late20_many (v : Option Addr) (c b off d j : Nat) (l : List Act20) (W : World) (h : InAct20 W v l b off) (hl : 200 < l.length) :
    Calls Try.prog 4 #[.int .u64 (d : Int), .int .u64 (j : Int), .slice v l.length c] W fun e w' => e = .returned (.bool true) ∧ Below W.heap.size W w' := by
  have HA := Lib.hid (alive20 W)
  have hm := h.1
  clear h
  have d0 : decide ((200 : Int) < (l.length : Int)) = true := decide_eq_true (by omega)
  have d1 : decide (200 < l.length) = true := decide_eq_true hl
  clear hl
  go_enter Try.func4, Try.ntmps4
  go_wp2_with (go_at_call 6; refine (HA.out).mono ?_; rintro e w' ⟨rfl, hb⟩)
  go_ret
  exact ⟨rfl, hb⟩
theorem late20_long (v : Option Addr) (c b off d j : Nat) (l : List Act20) (W : World) (h : InAct20 W v l b off) (hl : ¬ 200 < l.length) (hd : 1099511627776 < d) :
    Calls Try.prog 4 #[.int .u64 (d : Int), .int .u64 (j : Int), .slice v l.length c] W fun e w' => e = .returned (.bool true) ∧ Below W.heap.size W w' := by
  have HA := Lib.hid (alive20 W)
  have hm := h.1
  clear h
  have d0 : decide ((200 : Int) < (l.length : Int)) = false := decide_eq_false (by omega)
  have d1 : decide (200 < l.length) = false := decide_eq_false hl
  have d2 : decide ((1099511627776 : Int) < (d : Int)) = true := decide_eq_true (by omega)
  have d3 : decide (1099511627776 < d) = true := decide_eq_true hd
  clear hl hd
  go_enter Try.func4, Try.ntmps4
  go_wp2_with (go_at_call 6; refine (HA.out).mono ?_; rintro e w' ⟨rfl, hb⟩)
  go_ret
  exact ⟨rfl, hb⟩
theorem late20_far (v : Option Addr) (c b off d j : Nat) (l : List Act20) (W : World) (h : InAct20 W v l b off) (hl : ¬ 200 < l.length) (hd : ¬ 1099511627776 < d) (hj : 1099511627776 < j) :
    Calls Try.prog 4 #[.int .u64 (d : Int), .int .u64 (j : Int), .slice v l.length c] W fun e w' => e = .returned (.bool true) ∧ Below W.heap.size W w' := by
  have HA := Lib.hid (alive20 W)
  have hm := h.1
  clear h
  have d0 : decide ((200 : Int) < (l.length : Int)) = false := decide_eq_false (by omega)
  have d1 : decide (200 < l.length) = false := decide_eq_false hl
  have d2 : decide ((1099511627776 : Int) < (d : Int)) = false := decide_eq_false (by omega)
  have d3 : decide (1099511627776 < d) = false := decide_eq_false hd
  have d4 : decide ((1099511627776 : Int) < (j : Int)) = true := decide_eq_true (by omega)
  have d5 : decide (1099511627776 < j) = true := decide_eq_true hj
  clear hl hd hj
  go_enter Try.func4, Try.ntmps4
  go_wp2_with (go_at_call 6; refine (HA.out).mono ?_; rintro e w' ⟨rfl, hb⟩)
  go_ret
  exact ⟨rfl, hb⟩

set_option maxRecDepth 100000 in
set_option maxHeartbeats 8000000 in
theorem late20_short (v : Option Addr) (c ab off d j : Nat) (l : List Act20) (W : World) (h : InAct20 W v l ab off) (hf : l.length ≤ 200) (hd : d ≤ 1099511627776) (hj : j ≤ 1099511627776) :
    Calls Try.prog 4 #[.int .u64 (d : Int), .int .u64 (j : Int), .slice v l.length c] W fun e w' => e = .returned (.bool true) ∧ Below W.heap.size W w' := by
  have HL := Lib.hid h
  have HA := Lib.hid alive20
  have HD := Lib.hid hd
  have HJ := Lib.hid hj
  have c0 : decide (200 < l.length) = false := decide_eq_false (by omega)
  have c1 : decide ((200 : Int) < (l.length : Int)) = false := decide_eq_false (by omega)
  have c2 : decide (1099511627776 < d) = false := decide_eq_false (by omega)
  have c3 : decide ((1099511627776 : Int) < (d : Int)) = false := decide_eq_false (by omega)
  have c4 : decide (1099511627776 < j) = false := decide_eq_false (by omega)
  have c5 : decide ((1099511627776 : Int) < (j : Int)) = false := decide_eq_false (by omega)
  clear h hd hj
  go_enter Try.func4, Try.ntmps4
  go_wp2_with fail
  refine (own_New d j W).mono ?_
  rintro e w0 ⟨b, rfl, H0⟩
  go_wp2_with fail
  go_loopw [10, 8, 9] (fun i u y wr => ∃ (k now nx : Nat) (s : BxS), i = .int .i64 (k : Int) ∧ u = .int .u64 (now : Int) ∧ y = .int .u64 (nx : Int) ∧ Lt20 W l.length k d j now nx b s wr) (fun i _ _ _ => l.length - (intOf i).toNat)
  case atStart => exact ⟨0, 0, 0, _, rfl, rfl, rfl, Nat.zero_le _, Nat.zero_le _, LtJ.start HD.out HJ.out, H0.out⟩
  case round =>
    obtain ⟨k, now, nx, s, rfl, rfl, rfl, hO⟩ := hrel
    have HO := Lib.hid hO
    have G0 := Lib.hid hO.ow
    have GB := Lib.hid hO.ow.bel
    clear hO H0
    by_cases hlt : k < l.length
    · have hq := HL.out.2.2 k hlt
      have hB := (HL.out.2.1 (by omega)).2
      obtain rfl := (HL.out.2.1 (by omega)).1
      generalize l.getD k default = q at *
      have HQ := Lib.hid hq
      have HBl := Lib.hid hB
      have a1 := jt_at hB GB.out hq.k1
      have a2 := jt_at hB GB.out hq.k2
      have i0 : (0 : Int) ≤ (k : Int) := by omega
      have i1 : (k : Int) < (l.length : Int) := by omega
      have i2 : k ≤ 200 := by omega
      clear hB hq
      by_cases hn : 1099511627776 < q.now
      · have e0 : decide (1099511627776 < q.now) = true := decide_eq_true hn
        have e1 : decide ((1099511627776 : Int) < (q.now : Int)) = true := decide_eq_true (by omega)
        clear hn HO
        go_wp2_with (go_at_call 6; refine (HA.out _).mono ?_; rintro e w5 ⟨rfl, hb⟩)
        go_ret
        exact ⟨rfl, bel_to GB.out hb GB.out.size⟩
      · have e0 : decide (1099511627776 < q.now) = false := decide_eq_false hn
        have e1 : decide ((1099511627776 : Int) < (q.now : Int)) = false := decide_eq_false (by omega)
        have hm1 : Hid ((max now q.now) ≤ 1099511627776) := Lib.hid (by have := HO.out.nw; omega)
        have hm2 : Hid (now ≤ max now q.now) := Lib.hid (by omega)
        have emx : (if now < q.now then (q.now : Int) else (now : Int)) = ((max now q.now : Nat) : Int) := by split <;> omega
        generalize max now q.now = m at *
        have hwk : IntKind.u64.wrap (k : Int) = (k : Int) := by rw [IntKind.wrap_u64]; omega
        have hdu := Lib.hid (HO.out.hs.due (ch := q.ch) HD.out HJ.out hm2.out hm1.out)
        have N1 := Lib.hid (HO.out.hs.put (ch := q.ch) HD.out HJ.out hm2.out hm1.out)
        have H1 := Lib.hid (own_Put W b s _ ⟨k, 0, 0, 0, 0, 0, false⟩ m q.ch _ rfl rfl HO.out.hs.ok (by have := hm1.out; omega) HQ.out.b2 (by have := HO.out.hs.ct; omega))
        generalize s.putB ⟨k, 0, 0, 0, 0, 0, false⟩ m q.ch = s1 at *
        generalize s.dueB m q.ch = t at *
        have hw : IntKind.u64.wrap ((m : Int) + (d : Int)) = ((m + d : Nat) : Int) := by have := hm1.out; have := HD.out; rw [IntKind.wrap_u64]; omega
        have f1 : decide ((t : Int) < ((m + d : Nat) : Int)) = false := decide_eq_false (by have := hdu.out; omega)
        have f2 : decide (t < m + d) = false := decide_eq_false (by have := hdu.out; omega)
        have g1 : (t : Int) - (m : Int) = ((t - m : Nat) : Int) := by have := hdu.out; omega
        have g2 : IntKind.u64.wrap ((t - m : Nat) : Int) = ((t - m : Nat) : Int) := by have := hdu.out; have := hm1.out; have := HD.out; have := HJ.out; rw [IntKind.wrap_u64]; omega
        have g3 : ((t - m : Nat) : Int) - (d : Int) = ((t - m - d : Nat) : Int) := by have := hdu.out; omega
        have g4 : IntKind.u64.wrap ((t - m - d : Nat) : Int) = ((t - m - d : Nat) : Int) := by have := hdu.out; have := hm1.out; have := HD.out; have := HJ.out; rw [IntKind.wrap_u64]; omega
        have f3 : decide ((j : Int) < ((t - m - d : Nat) : Int)) = false := decide_eq_false (by have := hdu.out; omega)
        have f4 : decide (j < t - m - d) = false := decide_eq_false (by have := hdu.out; omega)
        generalize t - m - d = y3 at *
        generalize t - m = y2 at *
        generalize m + d = y1 at *
        clear hn hdu
        have hk0 := Lib.hid HQ.out.k0
        cases hqo : q.out
        · rw [hqo] at hk0
          go_wp2_with (go_at_call 11; (refine (H1.out _ G0.out).mono ?_); rintro e w2 ⟨rfl, T1⟩; have a0 := jt_at0 HBl.out T1.out.bel hk0.out)
          go_roundw
          case rel => exact ⟨k + 1, m, nx, s1, by go_num, rfl, rfl, by omega, hm1.out, N1.out, T1.out⟩
          case measure => simp [intOf]; omega
        · rw [hqo] at hk0
          go_wp2_with (go_at_call 11; (refine (H1.out _ G0.out).mono ?_); rintro e w2 ⟨rfl, T1⟩; have a0 := jt_at0 HBl.out T1.out.bel hk0.out)
          obtain ⟨sp1, sp2⟩ := N1.out.split m
          have HOut := Lib.hid (own_Out W b s1 _ m _ rfl rfl (by have := N1.out.ct; omega))
          have hct := sp2.ct
          have SP1 := Lib.hid sp1
          have SP2 := Lib.hid sp2
          clear sp1 sp2 N1 H1 G0 GB a0 a1 a2 emx hk0 hqo g1 g2 g3 g4 f1 f2 f3 f4 e0 e1 hw hwk HO
          generalize s1.told m = tl at *
          generalize s1.outB m = s2 at *
          refine (HOut.out _ T1.out).mono ?_
          rintro e w3 ⟨ao, cap, rfl, hcap, hi, T2⟩
          clear HOut T1
          go_wp2_with fail
          go_loopw [13, 9] (fun i u wr => ∃ i' : Nat, i = .int .i64 (i' : Int) ∧ u = .int .u64 ((nx + i' : Nat) : Int) ∧ i' ≤ tl.length ∧ wr = w3) (fun i _ _ => tl.length - (intOf i).toNat)
          case atStart => exact ⟨0, rfl, rfl, Nat.zero_le _, rfl⟩
          case round =>
            obtain ⟨i', rfl, rfl, hi', ew⟩ := hrel
            rw [ew]
            clear ew
            by_cases hl2 : i' < tl.length
            · obtain ⟨g, of, rfl, _, hc⟩ := hi.out (by omega)
              have x0 : w3.cell? ⟨g, of + i' * 7, none⟩ = some (.int .u64 ((nx + i' : Nat) : Int)) := by
                rw [← nth_n SP1.out hl2]
                exact hc i' 0 hl2 (by decide)
              have hw : IntKind.u64.wrap (((nx + i' : Nat) : Int) + 1) = ((nx + (i' + 1) : Nat) : Int) := by rw [IntKind.wrap_u64]; omega
              have j0 : (0 : Int) ≤ (i' : Int) := by omega
              have j1 : (i' : Int) < (tl.length : Int) := by omega
              clear hc
              go_wp2
              go_roundw
              case rel => exact ⟨i' + 1, by go_num, rfl, by omega, trivial⟩
              case measure => simp [intOf]; omega
            · obtain rfl : i' = tl.length := by omega
              go_wp2
              go_roundw
              case rel => exact ⟨k + 1, m, nx + tl.length, s2, by go_num, rfl, rfl, by omega, hm1.out, SP2.out, T2.out⟩
              case measure => simp [intOf]; omega
    · obtain rfl : k = l.length := by have := HO.out.kn; omega
      have hlt' : decide (l.length < l.length) = false := decide_eq_false hlt
      obtain ⟨al1, al2⟩ := HO.out.hs.all (t := 4398046511104) (by have := HO.out.hs.la; have := HO.out.nw; have := HD.out; have := HJ.out; omega)
      have hct := HO.out.hs.ct
      have HOut := Lib.hid (own_Out W b s _ 4398046511104 _ rfl rfl (by omega))
      have HLn := Lib.hid (own_Len W b (s.outB 4398046511104) 0 (by rw [al2]; rfl))
      rw [← al1] at hct
      clear HO HL al1 al2 GB
      generalize s.told 4398046511104 = tl at *
      generalize s.outB 4398046511104 = s2 at *
      have k1 : IntKind.u64.wrap (tl.length : Int) = (tl.length : Int) := by rw [IntKind.wrap_u64]; omega
      have k2 : IntKind.u64.wrap ((nx : Int) + (tl.length : Int)) = (l.length : Int) := by rw [IntKind.wrap_u64]; omega
      have k3 : IntKind.u64.wrap (l.length : Int) = (l.length : Int) := by rw [IntKind.wrap_u64]; omega
      go_wp2_with fail
      refine (HOut.out _ G0.out).mono ?_
      rintro e w3 ⟨ao, cap, rfl, _, _, T2⟩
      clear HOut G0
      go_wp2_with fail
      refine (bn_Next _).mono ?_
      rintro e w' ⟨rfl, rfl⟩
      go_wp2_with (first
        | (go_at_call 6; refine (HA.out _).mono ?_; rintro e w5 ⟨rfl, hb⟩; have T5 := Lib.hid (T2.out.to hb); have B5 := Lib.hid T5.out.bel; clear hb T2)
        | (go_at_call 16; refine (HLn.out _ T5.out).mono ?_; clear HLn T5; rintro e w' ⟨rfl, rfl⟩)
        | (go_at_call 16; refine (bn_Len _).mono ?_; rintro e w' ⟨rfl, rfl⟩)
        | (go_at_call 11; refine (bn_Put _ _ 1 1).mono ?_; rintro e w6 ⟨rfl, hb⟩; have B6 := Lib.hid (bel_to B5.out hb B5.out.size); clear hb)
        | (go_at_call 8; refine (bn_Out 1 _).mono ?_; rintro e w7 ⟨rfl, hb⟩; have B7 := Lib.hid (bel_to B6.out hb B6.out.size); clear hb)
        | (go_at_call 14; refine (bn_All _).mono ?_; rintro e w' ⟨rfl, rfl⟩))
      go_ret
      exact ⟨rfl, B7.out⟩

theorem JitterLate_walk (d j : Nat) (v : Option Addr) (n c : Nat) (l : List Act20) (b off : Nat) (W : World) (hd : d ≤ 18446744073709551615) (hj : j ≤ 18446744073709551615) (h : l.length = n ∧ InAct20 W v l b off) :
    Calls Try.prog 4 #[.int .u64 (d : Int), .int .u64 (j : Int), .slice v n c] W fun e w' => e = .returned (.bool true) ∧ Below W.heap.size W w' := by
  obtain ⟨rfl, h⟩ := h
  by_cases hf : 200 < l.length
  · exact late20_many v c b off d j l W h hf
  by_cases hg : 1099511627776 < d
  · exact late20_long v c b off d j l W h hf hg
  by_cases hg2 : 1099511627776 < j
  · exact late20_far v c b off d j l W h hf hg hg2
  · exact late20_short v c b off d j l W h (by omega) (by omega) (by omega)

end Go.Proofs.Ytlhgiboajnhahaa
