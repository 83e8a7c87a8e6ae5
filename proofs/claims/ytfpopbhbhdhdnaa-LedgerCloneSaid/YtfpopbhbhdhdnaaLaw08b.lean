/- LedgerClone over this translation. -/
import Derived.Test.YtfpopbhbhdhdnaaVj
set_option linter.unusedVariables false
namespace Go.Proofs.Ytfpopbhbhdhdnaa
open Go.RowKit

theorem RAt.mono {w : World} {B B' b : Nat} {r : RS8} {vL vO : Value} (h : RAt w B b r vL vO) (hB : B' ≤ B) : RAt w B' b r vL vO := ⟨h.head, own_base h.L hB, own_base h.O hB, Nat.le_trans hB h.lo⟩
theorem pair_clone {B b mb : Nat} {r : RS8} {w : World} (h : Pair B b mb r w) :
    Calls Try.prog 13 #[.pointer (some ⟨b, 0, none⟩)] w fun e w' => ∃ nb, e = .returned (.pointer (some ⟨nb, 0, none⟩)) ∧ LedP w.heap.size nb (sel r.A r.O) r.A.length r.top r.some r.reorder w' ∧ Below w.heap.size w w' := by
  obtain ⟨rb, g, s, k1, k2, k3, k4, k5, k6, k7, k8⟩ := h.led
  refine (lclone_any b rb g s w k1 k2).mono ?_
  rintro e w' ⟨⟨nb, rb', g', ks, rfl, m1, m2, m3, m4⟩, m5⟩
  exact ⟨nb, rfl, ⟨rb', g', _, m1, m2, by show outP ks = _; rw [m3, k3], k4, k5, k6, k7, m4⟩, m5⟩
theorem pair_copy {B b mb : Nat} {r : RS8} {w : World} (h : Pair B b mb r w) :
    Calls Try.prog 14 #[.pointer (some ⟨mb, 0, none⟩)] w fun e w' => ∃ nm, e = .returned (.pointer (some ⟨nm, 0, none⟩)) ∧ RefP w.heap.size nm r w' ∧ Below w.heap.size w w' := by
  obtain ⟨vL, vO, h1, h2⟩ := h.ref
  refine (rcopy_any B mb r vL vO w h1 h.ok h2).mono ?_
  rintro e w' ⟨⟨nm, vL', vO', rfl, m1, m2⟩, m3⟩
  exact ⟨nm, rfl, ⟨vL', vO', m1, m2⟩, m3⟩
theorem ac_ok {w : World} {b o : Nat} {q : Ac} (h : AcAt w b o q) (hr : q.r.length ≤ 100) : AcOk q := ⟨h.b0, h.b1, h.b2, ⟨by omega, h.b3.2.2⟩, h.b4, h.b5⟩

set_option maxRecDepth 100000 in
set_option maxHeartbeats 2000000 in
theorem clone_short (reorder : Nat) (v1 v2 : Option Addr) (c1 c2 b1 o1 b2 o2 : Nat) (l1 l2 : List Ac) (W : World) (h1 : InActs W v1 l1 b1 o1) (h2 : InActs W v2 l2 b2 o2) (p q : Bool) (e1 : fitsB l1 = p) (e2 : fitsB l2 = q) (hf : (p && q) = false) :
    Calls Try.prog 4 #[.int .u64 (reorder : Int), .slice v1 l1.length c1, .slice v2 l2.length c2] W fun e w' => e = .returned (.bool true) ∧ Below W.heap.size W w' := by
  have H1 := Lib.hid (fits_any l1 v1 c1 b1 o1 W h1)
  have H2 := Lib.hid (fits_any l2 v2 c2 b2 o2 W h2)
  rw [e1] at H1
  rw [e2] at H2
  have HA := Lib.hid (alive08 W)
  clear h1 h2 e1 e2
  cases p
  all_goals cases q
  all_goals try (simp at hf; done)
  all_goals
    go_enter Try.func4, Try.ntmps4
    go_wp2_with fail
    refine (H1.out).mono ?_
    rintro e w1 ⟨rfl, rfl⟩
    go_wp2_with fail
    refine (H2.out).mono ?_
    rintro e w2 ⟨rfl, rfl⟩
    go_wp2_with fail
    refine (HA.out).mono ?_
    rintro e w3 ⟨rfl, b3⟩
    have B3 := Lib.hid b3
    clear b3 HA H1 H2
    go_wp2
    go_ret
    exact ⟨rfl, B3.out⟩

set_option maxRecDepth 100000 in
set_option maxHeartbeats 8000000 in
theorem LedgerClone_walk (reorder : Nat) (hr : reorder ≤ 18446744073709551615) (v1 v2 : Option Addr) (c1 c2 b1 o1 b2 o2 : Nat) (l1 l2 : List Ac) (W : World) (h1 : InActs W v1 l1 b1 o1) (h2 : InActs W v2 l2 b2 o2) :
    Calls Try.prog 4 #[.int .u64 (reorder : Int), .slice v1 l1.length c1, .slice v2 l2.length c2] W fun e w' => e = .returned (.bool true) ∧ Below W.heap.size W w' := by
  by_cases hf : (fitsB l1 && fitsB l2) = true
  case neg => exact clone_short reorder v1 v2 c1 c2 b1 o1 b2 o2 l1 l2 W h1 h2 _ _ rfl rfl (by simpa using hf)
  rw [Bool.and_eq_true] at hf
  have H1 := Lib.hid (fits_any l1 v1 c1 b1 o1 W h1)
  have H2 := Lib.hid (fits_any l2 v2 c2 b2 o2 W h2)
  rw [hf.1] at H1
  rw [hf.2] at H2
  have hfl : ∀ l : List Ac, fitsB l = true → l.length ≤ 100 ∧ ∀ i, i < l.length → (l.getD i default).r.length ≤ 100 := fun l hl => by
    unfold fitsB at hl
    rw [Bool.and_eq_true, decide_eq_true_eq, List.all_eq_true] at hl
    refine ⟨hl.1, fun i hi => ?_⟩
    have := hl.2 (l.getD i default) (by simp [List.getD_eq_getElem?_getD, hi])
    simpa using this
  have HL1 := Lib.hid (hfl l1 hf.1)
  have HL2 := Lib.hid (hfl l2 hf.2)
  have HI1 := Lib.hid h1
  have HI2 := Lib.hid h2
  have HN := Lib.hid (new_any reorder W)
  have HR := Lib.hid hr
  clear h1 h2 hf hfl hr
  go_enter Try.func4, Try.ntmps4
  go_wp2_with fail
  refine (H1.out).mono ?_
  rintro e w1 ⟨rfl, rfl⟩
  clear H1
  go_wp2_with fail
  refine (H2.out).mono ?_
  rintro e w2 ⟨rfl, rfl⟩
  clear H2
  go_wp2_with fail
  refine (HN.out).mono ?_
  rintro e w3 ⟨⟨b, rb, g, rfl, hl, hx⟩, hw⟩
  have HP0 : Hid (Pair w2.heap.size b w3.heap.size ⟨[], [], reorder, 0, false⟩ (w3.alloc (.cells #[.int .u64 (reorder : Int), .slice none 0 0, .slice none 0 0, .int .u64 0, .bool false] 46))) := Lib.hid ⟨⟨rb, g, _, hl.alloc _, LS.empty_ok HR.out, rfl, rfl, rfl, rfl, rfl, hx⟩, ⟨_, _, ⟨Blk.new _ _ _, World.ownsRow_nil _ _ _ _, World.ownsRow_nil _ _ _ _, hw.size⟩, fun _ => ⟨rfl, rfl⟩⟩, ⟨rfl, (fun p h => by cases h), (fun i h => absurd h (by simp)), by simp, HR.out, by simp⟩⟩
  have HB0 : Hid (Below w2.heap.size w2 (w3.alloc (.cells #[.int .u64 (reorder : Int), .slice none 0 0, .slice none 0 0, .int .u64 0, .bool false] 46))) := Lib.hid (hw.alloc hw.size _)
  clear hl hx hw HN
  go_wp2
  generalize (w3.alloc (.cells #[.int .u64 (reorder : Int), .slice none 0 0, .slice none 0 0, .int .u64 0, .bool false] 46)) = w4 at *
  generalize w3.heap.size = mb at *
  go_loopw [11] (fun i wr => ∃ (k : Nat) (r : RS8), i = .int .i64 (k : Int) ∧ k ≤ l1.length ∧ r.A.length ≤ k ∧ Pair w2.heap.size b mb r wr ∧ Below w2.heap.size w2 wr) (fun i _ => l1.length - (intOf i).toNat)
  case atStart => exact ⟨0, _, rfl, Nat.zero_le _, Nat.le_refl _, HP0.out, HB0.out⟩
  case round =>
    obtain ⟨k, r, rfl, hk, hrk, hP, hB⟩ := hrel
    have HP := Lib.hid hP
    have HB := Lib.hid hB
    clear hP hB HP0 HB0
    by_cases hlt : k < l1.length
    · obtain ⟨rfl, hb0⟩ := HI1.out.2.1 (by omega)
      have A0 := HI1.out.2.2 k hlt
      have A := A0.keep hb0 HB.out
      have hrl := HL1.out.2 k hlt
      have hll := HL1.out.1
      have i0 : (0 : Int) ≤ (k : Int) := by omega
      have i1 : (k : Int) < (l1.length : Int) := by omega
      generalize l1.getD k default = q at *
      obtain ⟨k0, k1, k2, k3, k4, k5⟩ := And.intro A.k0 (And.intro A.k1 (And.intro A.k2 (And.intro A.k3 (And.intro A.k4 A.k5))))
      have HA := Lib.hid (act_any w2.heap.size b mb r wr HP.out HB.out.size (by omega) q (ac_ok A0 hrl) (fun W' k => A0.b3.2.1.keep (HB.out.trans k)))
      clear A A0
      go_wp2_with fail
      refine (HA.out).mono ?_
      rintro e w5 ⟨rfl, ⟨r', m1, m2⟩, m3⟩
      have HP5 := Lib.hid m1
      have HB5 := Lib.hid (HB.out.trans m3)
      clear m1 m3 HA HP HB k0 k1 k2 k3 k4 k5
      go_wp2
      go_roundw
      case rel => exact ⟨k + 1, r', by go_num, by omega, by omega, HP5.out, HB5.out⟩
      case measure => simp [intOf]; omega
    · obtain rfl : k = l1.length := by omega
      have hll := HL1.out.1
      have HC := Lib.hid (pair_clone HP.out)
      clear HL1 HI1
      go_wp2_with fail
      refine (HC.out).mono ?_
      rintro e w5 ⟨nb, rfl, m1, m2⟩
      have HC5 := Lib.hid m1
      have HB5 := Lib.hid m2
      have HCo := Lib.hid (pair_copy (HP.out.keep m2))
      have hsz := m2.size
      clear m1 m2 HC
      go_wp2_with fail
      refine (HCo.out).mono ?_
      rintro e w6 ⟨nm, rfl, ⟨vL, vO, m1, m3⟩, m2⟩
      have HP6 : Hid (Pair wr.heap.size nb nm r w6) := Lib.hid ⟨HC5.out.keep m2, ⟨vL, vO, m1.mono hsz, m3⟩, HP.out.ok⟩
      have HB6 := Lib.hid (bel_to HB5.out m2 HB5.out.size)
      clear m1 m2 m3 HCo HC5 HB5 hsz
      go_wp2
      go_loopw [14] (fun i wz => ∃ (j : Nat) (r' : RS8), i = .int .i64 (j : Int) ∧ j ≤ l2.length ∧ r'.A.length ≤ r.A.length + j ∧ Pair wr.heap.size nb nm r' wz ∧ Below wr.heap.size wr wz) (fun i _ => l2.length - (intOf i).toNat)
      case atStart => exact ⟨0, r, rfl, Nat.zero_le _, Nat.le_refl _, HP6.out, HB6.out⟩
      case round =>
        obtain ⟨j, r', rfl, hj, hrj, hP2, hB2⟩ := hrel
        have HP2 := Lib.hid hP2
        have HBa := Lib.hid hB2
        have HBb := Lib.hid (HB.out.trans (hB2.mono HB.out.size))
        have hll2 := HL2.out.1
        clear hP2 hB2 HP6 HB6
        by_cases hlt2 : j < l2.length
        · obtain ⟨rfl, hb0⟩ := HI2.out.2.1 (by omega)
          have A0 := HI2.out.2.2 j hlt2
          have A := A0.keep hb0 HBb.out
          have hrl := HL2.out.2 j hlt2
          have i0 : (0 : Int) ≤ (j : Int) := by omega
          have i1 : (j : Int) < (l2.length : Int) := by omega
          generalize l2.getD j default = q at *
          obtain ⟨k0, k1, k2, k3, k4, k5⟩ := And.intro A.k0 (And.intro A.k1 (And.intro A.k2 (And.intro A.k3 (And.intro A.k4 A.k5))))
          have HA := Lib.hid (act_any _ nb nm r' _ HP2.out HBa.out.size (by omega) q (ac_ok A0 hrl) (fun W' k => A0.b3.2.1.keep (HBb.out.trans (k.mono HB.out.size))))
          clear A A0
          go_wp2_with fail
          refine (HA.out).mono ?_
          rintro e w7 ⟨rfl, ⟨r2, m1, m2⟩, m3⟩
          have HP7 := Lib.hid m1
          have HB7 := Lib.hid (HBa.out.trans m3)
          have HS1 := Lib.hid (same_any _ nb nm r2 w7 m1)
          clear m1 m3 HA HP2 HBa HBb k0 k1 k2 k3 k4 k5
          go_wp2_with fail
          refine (HS1.out).mono ?_
          rintro e w8 ⟨rfl, n1⟩
          have HP8 := Lib.hid (HP7.out.keep n1)
          have HB8 := Lib.hid (bel_to HB7.out n1 HB7.out.size)
          have HS2 := Lib.hid (same_any _ b mb r w8 (HP.out.keep HB8.out))
          clear n1 HS1 HP7 HB7
          go_wp2_with fail
          refine (HS2.out).mono ?_
          rintro e w9 ⟨rfl, n2⟩
          have HP9 := Lib.hid (HP8.out.keep n2)
          have HB9 := Lib.hid (bel_to HB8.out n2 HB8.out.size)
          clear n2 HS2 HP8 HB8
          go_wp2
          go_roundw
          case rel => exact ⟨j + 1, r2, by go_num, by omega, by omega, HP9.out, HB9.out⟩
          case measure => simp [intOf]; omega
        · obtain rfl : j = l2.length := by omega
          clear HI2 HP HBa HP2
          go_wp2_with fail
          refine (ack_nil _ _).mono ?_
          rintro e w7 ⟨rfl, n1⟩
          have B7 := Lib.hid (bel_to HBb.out n1 HBb.out.size)
          clear n1 HBb
          go_wp2_with fail
          refine (top_nil _).mono ?_
          rintro e w8 ⟨rfl, rfl⟩
          go_wp2_with fail
          refine (alive08 _).mono ?_
          rintro e w9 ⟨rfl, n1⟩
          have B9 := Lib.hid (bel_to B7.out n1 B7.out.size)
          clear n1 B7
          go_wp2_with fail
          refine (send_nil 1 0 0 0 0 false _).mono ?_
          rintro e wa ⟨rfl, n1⟩
          have Ba := Lib.hid (bel_to B9.out n1 B9.out.size)
          clear n1 B9
          go_wp2_with fail
          refine (lost_nil 1 1 1 _).mono ?_
          rintro e wb ⟨rfl, n1⟩
          have Bb := Lib.hid (bel_to Ba.out n1 Ba.out.size)
          clear n1 Ba
          go_wp2_with fail
          refine (out_nil _).mono ?_
          rintro e wc ⟨rfl, rfl⟩
          go_wp2_with fail
          refine (inflight_nil _).mono ?_
          rintro e wd ⟨rfl, rfl⟩
          go_wp2_with fail
          refine (next_nil _).mono ?_
          rintro e we ⟨rfl, rfl⟩
          go_wp2_with fail
          refine (clone_nil _).mono ?_
          rintro e wf ⟨rfl, rfl⟩
          go_wp2
          go_ret
          exact ⟨rfl, Bb.out⟩
end Go.Proofs.Ytfpopbhbhdhdnaa
