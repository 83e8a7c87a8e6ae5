/- JitterNone over this translation: without jitter, and with choices of 0, all is due just the delay behind its time. -/
import Derived.Test.YtlhgiboajnhahaaLaw20a
import Derived.Test.YtlhgiboajnhahaaIn20
import Derived.Deep.DeepCutAuto
import Derived.Deep.LoopGhost
import Derived.Laws.StructEq
set_option linter.unusedVariables false
namespace Go.Proofs.Ytlhgiboajnhahaa
open Go.RowKit

theorem jq_at {W w : World} {b o j : Nat} {v : Value} (hb : b < W.heap.size) (g : Below W.heap.size W w) (h : W.cell? ⟨b, o + j, none⟩ = some v) : w.cell? ⟨b, o + j, none⟩ = some v := (g.cell (p := ⟨b, _, none⟩) hb).trans h
theorem jq_at0 {W w : World} {b o : Nat} {v : Value} (hb : b < W.heap.size) (g : Below W.heap.size W w) (h : W.cell? ⟨b, o, none⟩ = some v) : w.cell? ⟨b, o, none⟩ = some v := (g.cell (p := ⟨b, _, none⟩) hb).trans h
/-- Two boxes of the call's own. -/
structure TwoJ (W : World) (a b : Nat) (s t : BxS) (w : World) : Prop where
  q : ∃ ra ga rb gb, BxAt w a ra ga s ∧ BxAt w b rb gb t ∧ ra ≠ rb ∧ ga ≠ gb ∧ W.heap.size ≤ ra ∧ W.heap.size ≤ ga ∧ W.heap.size ≤ rb ∧ W.heap.size ≤ gb
  ne : a ≠ b
  lo : W.heap.size ≤ a ∧ W.heap.size ≤ b
  bel : Below W.heap.size W w
theorem TwoJ.to {W w w' : World} {a b : Nat} {s t : BxS} (h : TwoJ W a b s t w) (k : Below w.heap.size w w') : TwoJ W a b s t w' := by
  obtain ⟨ra, ga, rb, gb, h1, h2, h3⟩ := h.q
  exact ⟨⟨ra, ga, rb, gb, h1.keep k, h2.keep k, h3⟩, h.ne, h.lo, bel_to h.bel k h.bel.size⟩
theorem TwoJ.swap {W w : World} {a b : Nat} {s t : BxS} (h : TwoJ W a b s t w) : TwoJ W b a t s w := by
  obtain ⟨ra, ga, rb, gb, h1, h2, h3, h4, h5, h6, h7, h8⟩ := h.q
  exact ⟨⟨rb, gb, ra, ga, h2, h1, Ne.symm h3, Ne.symm h4, h7, h8, h5, h6⟩, Ne.symm h.ne, ⟨h.lo.2, h.lo.1⟩, h.bel⟩
theorem two_Put (W : World) (a b : Nat) (s s' t : BxS) (p : Pk) (now ch y : Nat) (hs : s.putB p now ch = s') (ht : s.dueB now ch = y) (ho : s.ok) (hn : now ≤ 18446744073709551615) (hc : ch ≤ 18446744073709551615) (hk : s.l.length ≤ 1000) (w : World) (h : TwoJ W a b s t w) :
    Calls Try.prog 11 #[.pointer (some ⟨a, 0, none⟩), p.agg, .int .u64 (now : Int), .int .u64 (ch : Int)] w fun e w' => e = .returned (.int .u64 (y : Int)) ∧ Hid (TwoJ W a b s' t w') := by
  obtain ⟨ra, ga, rb, gb, h1, h2, h3, h4, h5, h6, h7, h8⟩ := h.q
  subst hs ht
  refine (bx_Put a ra ga p now ch s w h1 ho hn hc hk).mono fun e w' k => ⟨k.e, Lib.hid ?_⟩
  obtain ⟨g', k1, k2⟩ := k.at_
  have sz := h.bel.size
  have lo := h.lo
  have lt := h2.lt
  obtain ⟨c1, e1⟩ := h1.row.head
  obtain ⟨c2, e2⟩ := h1.row.body
  obtain ⟨c3, e3⟩ := h2.row.head
  obtain ⟨c4, e4⟩ := h2.row.body
  have n1 := h2.head.ty e1 (by decide)
  have n2 := h2.head.ty e2 (by decide)
  have n3 := e3.ty h1.head (by decide)
  have n4 := e3.ty e2 (by decide)
  have n5 := e4.ty h1.head (by decide)
  have n6 := e4.ty e1 (by decide)
  have m1 := h.ne
  refine ⟨⟨ra, g', rb, gb, k1, h2.fr k.fr (by simp; exact ⟨Ne.symm m1, n1, n2⟩) (by simp; exact ⟨n3, Ne.symm h3, n4⟩) (by simp; exact ⟨n5, n6, Ne.symm h4⟩), h3, by rcases k2 with c | c; exact c ▸ h4; omega, h5, by omega, h7, h8⟩, m1, lo, bel_fr h.bel k.fr sz (fun x hx => by simp at hx; omega)⟩
theorem two_PutB (W : World) (a b : Nat) (s t t' : BxS) (p : Pk) (now ch y : Nat) (hs : t.putB p now ch = t') (ht : t.dueB now ch = y) (ho : t.ok) (hn : now ≤ 18446744073709551615) (hc : ch ≤ 18446744073709551615) (hk : t.l.length ≤ 1000) (w : World) (h : TwoJ W a b s t w) :
    Calls Try.prog 11 #[.pointer (some ⟨b, 0, none⟩), p.agg, .int .u64 (now : Int), .int .u64 (ch : Int)] w fun e w' => e = .returned (.int .u64 (y : Int)) ∧ Hid (TwoJ W a b s t' w') :=
  (two_Put W b a t t' s p now ch y hs ht ho hn hc hk w h.swap).mono fun e w' k => ⟨k.1, Lib.hid k.2.out.swap⟩
theorem two_Len (W : World) (a b n : Nat) (s t : BxS) (w : World) (h : TwoJ W a b s t w) (hn : s.l.length = n) : Calls Try.prog 16 #[.pointer (some ⟨a, 0, none⟩)] w fun e w' => e = .returned (.int .i64 (n : Int)) ∧ w = w' := by
  obtain ⟨ra, ga, rb, gb, h1, h2, h3⟩ := h.q
  subst hn
  exact bx_Len a ra ga s w h1
theorem two_New (W : World) (d j a : Nat) (s : BxS) (w : World) (h : OwnBx W a s w) : Calls Try.prog 7 #[.int .u64 (d : Int), .int .u64 (j : Int)] w fun e w' => ∃ b, e = .returned (.pointer (some ⟨b, 0, none⟩)) ∧ Hid (TwoJ W a b s (BxS.start d j) w') :=
  (bx_New d j w).mono fun e w' k => by
    obtain ⟨⟨b, rb, gb, he, h1, h2, h3, h4⟩, hb⟩ := k
    obtain ⟨ra, ga, k1, k2, k3⟩ := h.at_
    have lt := k1.lt
    have sz := h.bel.size
    have lo := h.lo
    exact ⟨b, he, Lib.hid ⟨⟨ra, ga, rb, gb, k1.keep hb, h1, by omega, by omega, k2, k3, by omega, by omega⟩, by omega, ⟨lo, by omega⟩, bel_to h.bel hb sz⟩⟩

/-- What a box keeps whose packets are due just the delay behind their times. -/
structure NoJ (d j now n : Nat) (s : BxS) : Prop where
  ok : s.ok
  de : s.delay = d
  ji : s.jit = j
  last : s.last ≤ now + d
  len : s.l.length = n
theorem NoJ.start {d j : Nat} (h : d ≤ 1099511627776) (k : j ≤ 1099511627776) : NoJ d j 0 0 (BxS.start d j) := ⟨BxS.start_ok (by omega) (by omega), rfl, rfl, Nat.zero_le _, rfl⟩
theorem NoJ.due {d j now n now' ch : Nat} {s : BxS} (h : NoJ d j now n s) (hd : d ≤ 1099511627776) (h1 : now ≤ now') (h2 : now' ≤ 1099511627776) (hc : min ch j = 0) : s.dueB now' ch = now' + d := by
  have := h.last
  unfold BxS.dueB BxS.ownT Pl.addS
  rw [h.de, h.ji, hc]
  omega
theorem NoJ.put {d j now n now' ch : Nat} {s : BxS} (h : NoJ d j now n s) (hd : d ≤ 1099511627776) (h1 : now ≤ now') (h2 : now' ≤ 1099511627776) (hc : min ch j = 0) (p : Pk) : NoJ d j now' (n + 1) (s.putB p now' ch) :=
  ⟨BxS.put_ok h.ok p now' ch, h.de, h.ji, Nat.le_of_eq (h.due hd h1 h2 hc), by rw [BxS.put_len, h.len]⟩
/-- What holds at each round's head. -/
structure No20 (W : World) (n k d now a b : Nat) (s t : BxS) (w : World) : Prop where
  kn : k ≤ n
  nw : now ≤ 1099511627776
  hs : NoJ d 0 now k s
  ht : NoJ d 1099511627776 now k t
  tw : TwoJ W a b s t w

theorem none20_many (v : Option Addr) (c b off d : Nat) (l : List Act20) (W : World) (h : InAct20 W v l b off) (hl : 200 < l.length) :
    Calls Try.prog 5 #[.int .u64 (d : Int), .slice v l.length c] W fun e w' => e = .returned (.bool true) ∧ Below W.heap.size W w' := by
  have HA := Lib.hid (alive20 W)
  have hm := h.1
  clear h
  have d0 : decide ((200 : Int) < (l.length : Int)) = true := decide_eq_true (by omega)
  have d1 : decide (200 < l.length) = true := decide_eq_true hl
  clear hl
  go_enter Try.func5, Try.ntmps5
  go_wp2_with (go_at_call 6; refine (HA.out).mono ?_; rintro e w' ⟨rfl, hb⟩)
  go_ret
  exact ⟨rfl, hb⟩
theorem none20_long (v : Option Addr) (c b off d : Nat) (l : List Act20) (W : World) (h : InAct20 W v l b off) (hl : ¬ 200 < l.length) (hd : 1099511627776 < d) :
    Calls Try.prog 5 #[.int .u64 (d : Int), .slice v l.length c] W fun e w' => e = .returned (.bool true) ∧ Below W.heap.size W w' := by
  have HA := Lib.hid (alive20 W)
  have hm := h.1
  clear h
  have d0 : decide ((200 : Int) < (l.length : Int)) = false := decide_eq_false (by omega)
  have d1 : decide (200 < l.length) = false := decide_eq_false hl
  have d2 : decide ((1099511627776 : Int) < (d : Int)) = true := decide_eq_true (by omega)
  have d3 : decide (1099511627776 < d) = true := decide_eq_true hd
  clear hl hd
  go_enter Try.func5, Try.ntmps5
  go_wp2_with (go_at_call 6; refine (HA.out).mono ?_; rintro e w' ⟨rfl, hb⟩)
  go_ret
  exact ⟨rfl, hb⟩

set_option maxRecDepth 100000 in
set_option maxHeartbeats 8000000 in
theorem none20_short (v : Option Addr) (c ab off d : Nat) (l : List Act20) (W : World) (h : InAct20 W v l ab off) (hf : l.length ≤ 200) (hd : d ≤ 1099511627776) :
    Calls Try.prog 5 #[.int .u64 (d : Int), .slice v l.length c] W fun e w' => e = .returned (.bool true) ∧ Below W.heap.size W w' := by
  have HL := Lib.hid h
  have HA := Lib.hid alive20
  have HD := Lib.hid hd
  have c0 : decide (200 < l.length) = false := decide_eq_false (by omega)
  have c1 : decide ((200 : Int) < (l.length : Int)) = false := decide_eq_false (by omega)
  have c2 : decide (1099511627776 < d) = false := decide_eq_false (by omega)
  have c3 : decide ((1099511627776 : Int) < (d : Int)) = false := decide_eq_false (by omega)
  clear h hd
  go_enter Try.func5, Try.ntmps5
  go_wp2_with fail
  refine (own_New d 0 W).mono ?_
  rintro e w0 ⟨a, rfl, H0⟩
  go_wp2_with fail
  refine (two_New W d 1099511627776 a _ w0 H0.out).mono ?_
  rintro e w1 ⟨b, rfl, H1⟩
  clear H0
  go_wp2_with fail
  go_loopw [8, 7] (fun i u wr => ∃ (k now : Nat) (s t : BxS), i = .int .i64 (k : Int) ∧ u = .int .u64 (now : Int) ∧ No20 W l.length k d now a b s t wr) (fun i _ _ => l.length - (intOf i).toNat)
  case atStart => exact ⟨0, 0, _, _, rfl, rfl, Nat.zero_le _, Nat.zero_le _, NoJ.start HD.out (by omega), NoJ.start HD.out (Nat.le_refl _), H1.out⟩
  case round =>
    obtain ⟨k, now, s, t, rfl, rfl, hO⟩ := hrel
    have HO := Lib.hid hO
    have G0 := Lib.hid hO.tw
    have GB := Lib.hid hO.tw.bel
    clear hO H1
    by_cases hlt : k < l.length
    · have hq := HL.out.2.2 k hlt
      have hB := (HL.out.2.1 (by omega)).2
      obtain rfl := (HL.out.2.1 (by omega)).1
      generalize l.getD k default = q at *
      have HQ := Lib.hid hq
      have a1 := jq_at hB GB.out hq.k1
      have a2 := jq_at hB GB.out hq.k2
      have i0 : (0 : Int) ≤ (k : Int) := by omega
      have i1 : (k : Int) < (l.length : Int) := by omega
      have i2 : k ≤ 200 := by omega
      clear hB hq
      by_cases hn : 1099511627776 < q.now
      · have e0 : decide (1099511627776 < q.now) = true := decide_eq_true hn
        have e1 : decide ((1099511627776 : Int) < (q.now : Int)) = true := decide_eq_true (by omega)
        clear hn HO
        go_wp2_with (go_at_call 6; refine (HA.out _).mono ?_; rintro e w5 ⟨rfl, hb⟩)
        go_ret
        exact ⟨rfl, bel_to GB.out hb GB.out.size⟩
      · have e0 : decide (1099511627776 < q.now) = false := decide_eq_false hn
        have e1 : decide ((1099511627776 : Int) < (q.now : Int)) = false := decide_eq_false (by omega)
        have hm1 : Hid ((max now q.now) ≤ 1099511627776) := Lib.hid (by have := HO.out.nw; omega)
        have hm2 : Hid (now ≤ max now q.now) := Lib.hid (by omega)
        have emx : (if now < q.now then (q.now : Int) else (now : Int)) = ((max now q.now : Nat) : Int) := by split <;> omega
        generalize max now q.now = m at *
        have q2 := HQ.out.b2
        have H1 := Lib.hid (two_Put W a b s _ t ⟨0, 0, 0, 0, 0, 0, false⟩ m q.ch (m + d) rfl (HO.out.hs.due HD.out hm2.out hm1.out (Nat.min_zero _)) HO.out.hs.ok (by have := hm1.out; omega) q2 (by rw [HO.out.hs.len]; omega))
        have H2 := Lib.hid (two_PutB W a b (s.putB ⟨0, 0, 0, 0, 0, 0, false⟩ m q.ch) t _ ⟨0, 0, 0, 0, 0, 0, false⟩ m 0 (m + d) rfl (HO.out.ht.due HD.out hm2.out hm1.out (Nat.zero_min _)) HO.out.ht.ok (by have := hm1.out; omega) (by omega) (by rw [HO.out.ht.len]; omega))
        have N1 := Lib.hid (HO.out.hs.put HD.out hm2.out hm1.out (Nat.min_zero q.ch) ⟨0, 0, 0, 0, 0, 0, false⟩)
        have N2 := Lib.hid (HO.out.ht.put HD.out hm2.out hm1.out (Nat.zero_min _) ⟨0, 0, 0, 0, 0, 0, false⟩)
        generalize s.putB ⟨0, 0, 0, 0, 0, 0, false⟩ m q.ch = s' at *
        generalize t.putB ⟨0, 0, 0, 0, 0, 0, false⟩ m 0 = t' at *
        have hw : IntKind.u64.wrap ((m : Int) + (d : Int)) = ((m + d : Nat) : Int) := by have := hm1.out; have := HD.out; rw [IntKind.wrap_u64]; omega
        generalize m + d = y at *
        clear hn q2 HO HQ
        go_wp2_with fail
        refine (H1.out _ G0.out).mono ?_
        rintro e w2 ⟨rfl, T1⟩
        clear a1 a2 G0 GB H1
        go_wp2_with fail
        refine (H2.out _ T1.out).mono ?_
        rintro e w3 ⟨rfl, T2⟩
        clear T1 H2
        go_wp2_with fail
        go_roundw
        case rel => exact ⟨k + 1, m, s', t', by go_num, rfl, by omega, hm1.out, N1.out, N2.out, T2.out⟩
        case measure => simp [intOf]; omega
    · obtain rfl : k = l.length := by have := HO.out.kn; omega
      have hlt' : decide (l.length < l.length) = false := decide_eq_false hlt
      have T := Lib.hid (fun w h => two_Len W a b l.length s t w h HO.out.hs.len)
      have U := Lib.hid (fun w h => two_Len W b a l.length t s w h HO.out.ht.len)
      clear HO HL
      go_wp2_with (first
        | (go_at_call 6; refine (HA.out _).mono ?_; rintro e w5 ⟨rfl, hb⟩; have G5 := Lib.hid (G0.out.to hb); clear hb)
        | (go_at_call 16; refine (T.out _ G5.out).mono ?_; rintro e w' ⟨rfl, rfl⟩)
        | (go_at_call 16; refine (U.out _ G5.out.swap).mono ?_; rintro e w' ⟨rfl, rfl⟩))
      go_ret
      exact ⟨rfl, G5.out.bel⟩

theorem JitterNone_walk (d : Nat) (v : Option Addr) (n c : Nat) (l : List Act20) (b off : Nat) (W : World) (hd : d ≤ 18446744073709551615) (h : l.length = n ∧ InAct20 W v l b off) :
    Calls Try.prog 5 #[.int .u64 (d : Int), .slice v n c] W fun e w' => e = .returned (.bool true) ∧ Below W.heap.size W w' := by
  obtain ⟨rfl, h⟩ := h
  by_cases hf : 200 < l.length
  · exact none20_many v c b off d l W h hf
  by_cases hg : 1099511627776 < d
  · exact none20_long v c b off d l W h hf hg
  · exact none20_short v c b off d l W h (by omega) (by omega)

end Go.Proofs.Ytlhgiboajnhahaa
