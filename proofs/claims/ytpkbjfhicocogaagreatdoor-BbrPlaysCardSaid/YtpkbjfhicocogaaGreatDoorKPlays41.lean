/- 1 texts put together: what each one says stands ahead of it. -/
import Derived.Test.YtpkbjfhicocogaaGreatDoorKPlays32
import Derived.Test.YtpkbjfhicocogaaGreatDoorKPlays33
import Derived.Test.YtpkbjfhicocogaaGreatDoorKPlays39
import Derived.Test.YtpkbjfhicocogaaGreatDoorKPlays40
import Derived.StillTailTactics
/- BbrPlays over this translation: the walk. -/
set_option linter.unusedVariables false
namespace Go.Proofs.YtpkbjfhicocogaaGreatDoor
open Go.RowKit Cf

def Ev15.ev (q : Ev15) : EvS := ⟨q.now, q.sd, q.si, q.sr, q.rt, q.sl, q.sm, q.dl, q.ac, q.lo, q.fl⟩
theorem Ev15At.ok {w : World} {b o : Nat} {q : Ev15} (h : Ev15At w b o q) : q.ev.ok := ⟨h.b0, h.b1, h.b2, h.b3, h.b4, h.b7, h.b8, h.b9, h.b10⟩

set_option maxHeartbeats 1000000 in
theorem plays_long (v : Option Addr) (n cap : Nat) (c : Setup) (W : World) (hg : Gl W) (hn : 120 < n) :
    Calls Tryz.prog 3 #[.agg (ccells c), .slice v n cap] W fun e w' => e = .returned (.bool true) ∧ Below W.heap.size W w' := by
  have HA := Lib.hid (fun w hg => alive15 w hg)
  have HG := Lib.hid hg
  have N0 : Hid (NewI W c (W.alloc (.cells (ccells c) 24))) := Lib.hid ⟨Blk.new W _ _, al_be _ _⟩
  have d0 : decide ((120 : Int) < (n : Int)) = true := decide_eq_true (by omega)
  have d1 : decide (120 < n) = true := decide_eq_true (by omega)
  clear hn hg
  have HX : Hid (ccells c = #[.int .u64 (c 0 : Int), .int .u64 (c 1 : Int), .int .u64 (c 2 : Int), .int .u64 (c 3 : Int), .int .u64 (c 4 : Int), .int .u64 (c 5 : Int)]) := Lib.hid rfl
  rw [HX.out] at N0 ⊢
  go_enter Tryz.func3, Tryz.ntmps3
  go_wp2_with fail
  refine (HA.out _ (HG.out.keep N0.out.bel)).mono ?_
  rintro e w2 ⟨rfl, hb⟩
  have N2 := ni_k N0 hb
  clear hb N0
  go_wp2_with fail
  go_ret
  exact ⟨rfl, N2.out.bel⟩

set_option maxHeartbeats 1000000 in
theorem plays_no (v : Option Addr) (n cap : Nat) (c : Setup) (hc : ∀ i, c i ≤ 18446744073709551615) (W : World) (hg : Gl W) (hr : rightC c = false) (hn : n ≤ 120) :
    Calls Tryz.prog 3 #[.agg (ccells c), .slice v n cap] W fun e w' => e = .returned (.bool true) ∧ Below W.heap.size W w' := by
  have HA := Lib.hid (fun w hg => alive15 w hg)
  have HN := Lib.hid (fun w => en_New_no c hc hr w)
  have HD := Lib.hid (fun w => rz_New_no c hr w)
  have HG := Lib.hid hg
  have N0 : Hid (NewI W c (W.alloc (.cells (ccells c) 24))) := Lib.hid ⟨Blk.new W _ _, al_be _ _⟩
  have d0 : decide ((120 : Int) < (n : Int)) = false := decide_eq_false (by omega)
  have d1 : decide (120 < n) = false := decide_eq_false (by omega)
  have r0 := ni_r (W := W) (c := c) (i := 0) (v := .int .u64 (c 0 : Int)) rfl
  have r1 := ni_r (W := W) (c := c) (i := 1) (v := .int .u64 (c 1 : Int)) rfl
  have r2 := ni_r (W := W) (c := c) (i := 2) (v := .int .u64 (c 2 : Int)) rfl
  have r3 := ni_r (W := W) (c := c) (i := 3) (v := .int .u64 (c 3 : Int)) rfl
  have r4 := ni_r (W := W) (c := c) (i := 4) (v := .int .u64 (c 4 : Int)) rfl
  have r5 := ni_r (W := W) (c := c) (i := 5) (v := .int .u64 (c 5 : Int)) rfl
  clear hn hg hc hr
  have HX : Hid (ccells c = #[.int .u64 (c 0 : Int), .int .u64 (c 1 : Int), .int .u64 (c 2 : Int), .int .u64 (c 3 : Int), .int .u64 (c 4 : Int), .int .u64 (c 5 : Int)]) := Lib.hid rfl
  rw [HX.out] at N0 HN HD ⊢
  go_enter Tryz.func3, Tryz.ntmps3
  go_wp2_with fail
  refine (HN.out _).mono ?_
  rintro e w1 ⟨rfl, hb⟩
  have N1 := ni_k N0 hb
  clear hb N0
  go_wp2_with fail
  refine (HD.out _).mono ?_
  rintro e w2 ⟨rfl, hb⟩
  have N2 := ni_k N1 hb
  clear hb N1
  go_wp2_with fail
  refine (HA.out _ (HG.out.keep N2.out.bel)).mono ?_
  rintro e w3 ⟨rfl, hb⟩
  have N3 := ni_k N2 hb
  clear hb N2
  go_wp2_with fail
  go_ret
  exact ⟨rfl, N3.out.bel⟩

/-- What holds of both engines at the head of each round. -/
def PlRel (V : World) (c : Setup) (P : EP) (Q : QP) (n k : Nat) (wr : World) : Prop := k ≤ n ∧ ∃ s : ES, s.ok k ∧ s.c = c ∧ EngAt wr V.heap.size P s ∧ RefAt wr V.heap.size Q s (k * 3) ∧ Below V.heap.size V wr

set_option maxHeartbeats 4000000 in
set_option maxRecDepth 100000 in
theorem plays_few (v : Option Addr) (cap b off : Nat) (l : List Ev15) (c : Setup) (hc : ∀ i, c i ≤ 18446744073709551615) (W : World) (hg : Gl W) (h : InEv15 W v l b off) (hr : rightC c = true) (hn : l.length ≤ 120) :
    Calls Tryz.prog 3 #[.agg (ccells c), .slice v l.length cap] W fun e w' => e = .returned (.bool true) ∧ Below W.heap.size W w' := by
  have HA := Lib.hid (fun w hg => alive15 w hg)
  have HN := Lib.hid (fun w hg => en_New_ok c hc hr w hg)
  have HD := Lib.hid (fun B w hB => rz_New_ok c hc hr B w hB)
  have HI := Lib.hid h
  have HG := Lib.hid hg
  have HOk := Lib.hid (ES.new_ok hc)
  have HRt := Lib.hid hr
  have HLn := Lib.hid hn
  have N0 : Hid (NewI W c (W.alloc (.cells (ccells c) 24))) := Lib.hid ⟨Blk.new W _ _, al_be _ _⟩
  have d0 : decide ((120 : Int) < (l.length : Int)) = false := decide_eq_false (by omega)
  have d1 : decide (120 < l.length) = false := decide_eq_false (by omega)
  have r0 := ni_r (W := W) (c := c) (i := 0) (v := .int .u64 (c 0 : Int)) rfl
  have r1 := ni_r (W := W) (c := c) (i := 1) (v := .int .u64 (c 1 : Int)) rfl
  have r2 := ni_r (W := W) (c := c) (i := 2) (v := .int .u64 (c 2 : Int)) rfl
  have r3 := ni_r (W := W) (c := c) (i := 3) (v := .int .u64 (c 3 : Int)) rfl
  have r4 := ni_r (W := W) (c := c) (i := 4) (v := .int .u64 (c 4 : Int)) rfl
  have r5 := ni_r (W := W) (c := c) (i := 5) (v := .int .u64 (c 5 : Int)) rfl
  clear hg hr hc hn h
  have HX : Hid (ccells c = #[.int .u64 (c 0 : Int), .int .u64 (c 1 : Int), .int .u64 (c 2 : Int), .int .u64 (c 3 : Int), .int .u64 (c 4 : Int), .int .u64 (c 5 : Int)]) := Lib.hid rfl
  rw [HX.out] at N0 HN HD ⊢
  go_enter Tryz.func3, Tryz.ntmps3
  go_wp2_with fail
  generalize hw0 : W.alloc (.cells #[.int .u64 (c 0 : Int), .int .u64 (c 1 : Int), .int .u64 (c 2 : Int), .int .u64 (c 3 : Int), .int .u64 (c 4 : Int), .int .u64 (c 5 : Int)] 24) = w1 at *
  clear hw0
  have N1 := N0
  refine (HN.out _ (HG.out.keep N1.out.bel)).mono ?_
  rintro e w2 hp
  obtain ⟨P, rfl, hE⟩ := hp.at_
  have E2 := Lib.hid hE
  have B2 := Lib.hid hp.bel
  have N2 := ni_k N1 hp.bel
  clear hp hE HN N0
  go_wp2_with fail
  refine (HD.out w1.heap.size _ B2.out.size).mono ?_
  rintro e w3 ⟨Q, rfl, hR, hb⟩
  have E3 := Lib.hid (E2.out.keep hb)
  have R3 := Lib.hid hR
  have B3 := Lib.hid (bel_to B2.out hb B2.out.size)
  clear hb hR E2 B2 HD N2
  go_wp2_with fail
  clear d0 d1 r0 r1 r2 r3 r4 r5
  go_loopw [9] (fun i wr => ∃ k : Nat, i = .int .i64 (k : Int) ∧ PlRel w1 c P Q l.length k wr) (fun i _ => l.length - (intOf i).toNat)
  case atStart => exact ⟨0, rfl, Nat.zero_le _, ES.new c, HOk.out, rfl, E3.out, R3.out, B3.out⟩
  case round =>
    obtain ⟨k, rfl, hk, s, hok, hsc, hE, hR, hB⟩ := hrel
    have E4 := Lib.hid hE
    have R4 := Lib.hid hR
    have B4 := Lib.hid hB
    have hk9 : k * 3 ≤ 880 := by have := HLn.out; omega
    have HSa := Lib.hid (fun w h q => law_Same (B := w1.heap.size) (k := k * 3) (P := P) (Q := Q) (s := s) w h q hok (by omega) (by rw [hsc]; exact HRt.out))
    clear hE hR hB E3 R3 B3
    by_cases hlt : k < l.length
    · obtain ⟨rfl, hb0⟩ := HI.out.2.1 (by omega)
      have HQ := Lib.hid (HI.out.2.2 k hlt)
      have i0 : (0 : Int) ≤ (k : Int) := by omega
      have i1 : (k : Int) < (l.length : Int) := by omega
      generalize l.getD k default = q at *
      have HO := Lib.hid (fun w h => en_On (B := w1.heap.size) (P := P) (s := s) q.ev HQ.out.ok w h hok (by omega))
      have HM := Lib.hid (fun w h => rz_On (B := w1.heap.size) (k := k * 3) (Q := Q) (s := s) q.ev HQ.out.ok w h hok (by omega) (by omega) (by rw [hsc]; exact HRt.out))
      have HF := Lib.hid (fun w => law_of15 q.ev w)
      have OK1 := Lib.hid (ES.on_ok hok HQ.out.ok (by omega))
      have HC1 := Lib.hid ((ES.on_c s q.ev).trans hsc)
      generalize s.on q.ev = s' at *
      unfold EvS.val EvS.cells Ev15.ev at HO HM HF
      have HB0 := Lib.hid hb0
      clear hok hsc hk9 hb0
      go_wp2_with fail
      refine (HSa.out _ E4.out R4.out).mono ?_
      rintro e w4 ⟨rfl, hb⟩
      have E5 := Lib.hid (E4.out.keep hb)
      have R5 := Lib.hid (R4.out.keep hb)
      have B5 := Lib.hid (bel_to B4.out hb B4.out.size)
      clear hb E4 R4 B4 HSa
      have Q1 := HQ.out.keep HB0.out (N1.out.bel.trans (B5.out.mono N1.out.bel.size))
      have x0 := Q1.k0
      have x1 := Q1.k1
      have x2 := Q1.k2
      have x3 := Q1.k3
      have x4 := Q1.k4
      have x5 := Q1.k5
      have x6 := Q1.k6
      have x7 := Q1.k7
      have x8 := Q1.k8
      have x9 := Q1.k9
      have x10 := Q1.k10
      clear Q1
      go_wp2_with fail
      refine (HO.out _ E5.out).mono ?_
      rintro e w5 h1
      obtain rfl := h1.e
      have E6 := Lib.hid h1.at_
      have R6 := Lib.hid (R5.out.kt h1.kt)
      have B6 := Lib.hid (B5.out.trans h1.bel)
      clear h1 HO E5 R5 B5 x0 x1 x2 x3 x4 x5 x6 x7 x8 x9 x10
      have Q2 := HQ.out.keep HB0.out (N1.out.bel.trans (B6.out.mono N1.out.bel.size))
      have x0 := Q2.k0
      have x1 := Q2.k1
      have x2 := Q2.k2
      have x3 := Q2.k3
      have x4 := Q2.k4
      have x5 := Q2.k5
      have x6 := Q2.k6
      have x7 := Q2.k7
      have x8 := Q2.k8
      have x9 := Q2.k9
      have x10 := Q2.k10
      clear Q2
      go_wp2_with fail
      refine (HF.out _).mono ?_
      rintro e w6 ⟨rfl, hb⟩
      have E7 := Lib.hid (E6.out.keep hb)
      have R7 := Lib.hid (R6.out.keep hb)
      have B7 := Lib.hid (bel_to B6.out hb B6.out.size)
      clear hb E6 R6 B6 HF x0 x1 x2 x3 x4 x5 x6 x7 x8 x9 x10
      go_wp2_with fail
      refine (HM.out _ R7.out).mono ?_
      rintro e w7 h1
      obtain rfl := h1.e
      have R8 := Lib.hid h1.at_
      have E8 := Lib.hid (E7.out.kq h1.kq h1.bel)
      have B8 := Lib.hid (B7.out.trans h1.bel)
      clear h1 HM E7 R7 B7
      have hln := HLn.out
      have hwr : IntKind.i64.wrap ((k : Int) + 1) = (k : Int) + 1 := by rw [IntKind.wrap_i64]; omega
      go_wp2_with fail
      go_roundw
      case rel => exact ⟨k + 1, by go_num, by omega, s', OK1.out, HC1.out, E8.out, R8.out.more (by omega), B8.out⟩
      case measure => simp [intOf]; omega
    · have BW := Lib.hid (N1.out.bel.trans (B4.out.mono N1.out.bel.size))
      clear hok hsc hk9
      go_wp2_with fail
      refine (HA.out _ (HG.out.keep BW.out)).mono ?_
      rintro e w4 ⟨rfl, hb⟩
      have E5 := Lib.hid (E4.out.keep hb)
      have R5 := Lib.hid (R4.out.keep hb)
      have B5 := Lib.hid (bel_to BW.out hb BW.out.size)
      clear hb E4 R4 B4 BW
      go_wp2_with fail
      refine (HSa.out _ E5.out R5.out).mono ?_
      rintro e w5 ⟨rfl, hb⟩
      have B6 := Lib.hid (bel_to B5.out hb B5.out.size)
      clear hb
      go_wp2_with fail
      go_ret
      exact ⟨rfl, B6.out⟩

theorem BbrPlays_walk (v : Option Addr) (len cap : Nat) (c : Setup) (l : List Ev15) (b off : Nat) (W : World) (hc : ∀ k, c k ≤ 18446744073709551615) (h : l.length = len ∧ InEv15 W v l b off) (hg : Gl W) :
    Calls Tryz.prog 3 #[.agg (ccells c), .slice v len cap] W fun e w' => e = .returned (.bool true) ∧ Below W.heap.size W w' := by
  obtain ⟨rfl, h⟩ := h
  by_cases hn : 120 < l.length
  · exact plays_long v _ cap c W hg hn
  · cases hr : rightC c with
    | false => exact plays_no v _ cap c hc W hg hr (by omega)
    | true => exact plays_few v cap b off l c hc W hg h hr (by omega)
end Go.Proofs.YtpkbjfhicocogaaGreatDoor
