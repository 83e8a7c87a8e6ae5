/- 1 texts put together: what each one says stands ahead of it. -/
import Derived.Test.YtpkbjfhicocogaaDoorKStuck25
import Derived.Test.YtpkbjfhicocogaaDoorKGrows01
import Derived.Test.YtpkbjfhicocogaaDoorKStuck04
import Derived.StillTailTactics
/- BbrGrows over this translation: the walk. -/
set_option linter.unusedVariables false
namespace Go.Proofs.YtpkbjfhicocogaaDoor
open Go.RowKit Cf

set_option maxHeartbeats 1000000 in
theorem grows_no (v : Option Addr) (n cap : Nat) (c : Setup) (hc : ∀ i, c i ≤ 18446744073709551615) (W : World) (hg : Gl W) (hr : rightC c = false) :
    Calls Tryd.prog 4 #[.agg (ccells c), .slice v n cap] W fun e w' => e = .returned (.bool true) ∧ Below W.heap.size W w' := by
  have HR := Lib.hid (fun w => ref_Right c w)
  have HA := Lib.hid (fun w hg => alive15 w hg)
  have HG := Lib.hid hg
  have N0 : Hid (NewI W c (W.alloc (.cells (ccells c) 24))) := Lib.hid ⟨Blk.new W _ _, al_be _ _⟩
  rw [hr] at HR
  clear hg hr hc
  have HX : Hid (ccells c = #[.int .u64 (c 0 : Int), .int .u64 (c 1 : Int), .int .u64 (c 2 : Int), .int .u64 (c 3 : Int), .int .u64 (c 4 : Int), .int .u64 (c 5 : Int)]) := Lib.hid rfl
  rw [HX.out] at N0 HR ⊢
  go_enter Tryd.func4, Tryd.ntmps4
  go_wp2_with fail
  refine (HR.out _).mono ?_
  rintro e w1 ⟨rfl, hb⟩
  have N1 := ni_k N0 hb
  clear N0 hb HR
  go_wp2_with fail
  refine (HA.out _ (HG.out.keep N1.out.bel)).mono ?_
  rintro e w2 ⟨rfl, hb⟩
  have N2 := ni_k N1 hb
  clear hb N1
  go_wp2_with fail
  go_ret
  exact ⟨rfl, N2.out.bel⟩

set_option maxHeartbeats 1000000 in
theorem grows_long (v : Option Addr) (n cap : Nat) (c : Setup) (hc : ∀ i, c i ≤ 18446744073709551615) (W : World) (hg : Gl W) (hr : rightC c = true) (hn : 120 < n) :
    Calls Tryd.prog 4 #[.agg (ccells c), .slice v n cap] W fun e w' => e = .returned (.bool true) ∧ Below W.heap.size W w' := by
  have HR := Lib.hid (fun w => ref_Right c w)
  have HA := Lib.hid (fun w hg => alive15 w hg)
  have HG := Lib.hid hg
  have N0 : Hid (NewI W c (W.alloc (.cells (ccells c) 24))) := Lib.hid ⟨Blk.new W _ _, al_be _ _⟩
  rw [hr] at HR
  have d0 : decide ((120 : Int) < (n : Int)) = true := decide_eq_true (by omega)
  have d1 : decide (120 < n) = true := decide_eq_true (by omega)
  clear hn
  clear hg hr hc
  have HX : Hid (ccells c = #[.int .u64 (c 0 : Int), .int .u64 (c 1 : Int), .int .u64 (c 2 : Int), .int .u64 (c 3 : Int), .int .u64 (c 4 : Int), .int .u64 (c 5 : Int)]) := Lib.hid rfl
  rw [HX.out] at N0 HR ⊢
  go_enter Tryd.func4, Tryd.ntmps4
  go_wp2_with fail
  refine (HR.out _).mono ?_
  rintro e w1 ⟨rfl, hb⟩
  have N1 := ni_k N0 hb
  clear N0 hb HR
  go_wp2_with fail
  refine (HA.out _ (HG.out.keep N1.out.bel)).mono ?_
  rintro e w2 ⟨rfl, hb⟩
  have N2 := ni_k N1 hb
  clear hb N1
  go_wp2_with fail
  go_ret
  exact ⟨rfl, N2.out.bel⟩

/-- What holds of the engine at the head of each round. -/
def GrRel (V : World) (c : Setup) (P : EP) (n k : Nat) (s : ES) (wr : World) : Prop := k ≤ n ∧ s.ok k ∧ Grow c s ∧ s.cwnd ≤ 72057594037927936 ∧ EngAt wr V.heap.size P s ∧ Below V.heap.size V wr

set_option maxHeartbeats 4000000 in
set_option maxRecDepth 100000 in
theorem grows_few (v : Option Addr) (cap : Nat) (l : List Nat) (c : Setup) (hc : ∀ i, c i ≤ 18446744073709551615) (W : World) (hg : Gl W) (h : Nums W v l) (hr : rightC c = true) (hn : l.length ≤ 120) :
    Calls Tryd.prog 4 #[.agg (ccells c), .slice v l.length cap] W fun e w' => e = .returned (.bool true) ∧ Below W.heap.size W w' := by
  have HR := Lib.hid (fun w => ref_Right c w)
  have HA := Lib.hid (fun w hg => alive15 w hg)
  have HN := Lib.hid (fun w hg => en_New_ok c hc hr w hg)
  have HI := Lib.hid h
  have HG := Lib.hid hg
  have hok0 := ES.new_ok hc
  have hgr0 := Grow.new hr
  have hfc := firstC_eq hr
  have HOk := Lib.hid hok0
  have HGr := Lib.hid hgr0
  have HCl : Hid ((ES.new c).cwnd ≤ 72057594037927936) := Lib.hid (show firstC c ≤ _ by omega)
  have HRt := Lib.hid hr
  have HLn := Lib.hid hn
  have HPe := Lib.hid (fun s (q : Grow c s) => (Grow.pace q hgr0))
  have HP0 := Lib.hid (fun B P w h => en_Pace (B := B) (P := P) (s := ES.new c) w h hok0)
  have HC0 := Lib.hid (fun B P w h => en_Cwnd (B := B) (P := P) (s := ES.new c) w h)
  have N0 : Hid (NewI W c (W.alloc (.cells (ccells c) 24))) := Lib.hid ⟨Blk.new W _ _, al_be _ _⟩
  rw [hr] at HR
  have d0 : decide ((120 : Int) < (l.length : Int)) = false := decide_eq_false (by omega)
  have d1 : decide (120 < l.length) = false := decide_eq_false (by omega)
  have r0 := ni_r (W := W) (c := c) (i := 0) (v := .int .u64 (c 0 : Int)) rfl
  have r1 := ni_r (W := W) (c := c) (i := 1) (v := .int .u64 (c 1 : Int)) rfl
  have r2 := ni_r (W := W) (c := c) (i := 2) (v := .int .u64 (c 2 : Int)) rfl
  have r3 := ni_r (W := W) (c := c) (i := 3) (v := .int .u64 (c 3 : Int)) rfl
  have r4 := ni_r (W := W) (c := c) (i := 4) (v := .int .u64 (c 4 : Int)) rfl
  have r5 := ni_r (W := W) (c := c) (i := 5) (v := .int .u64 (c 5 : Int)) rfl
  clear hg hr hc hn h hok0 hgr0 hfc
  have HX : Hid (ccells c = #[.int .u64 (c 0 : Int), .int .u64 (c 1 : Int), .int .u64 (c 2 : Int), .int .u64 (c 3 : Int), .int .u64 (c 4 : Int), .int .u64 (c 5 : Int)]) := Lib.hid rfl
  rw [HX.out] at N0 HR HN ⊢
  generalize hpa : (ES.new c).pace = pa at *
  generalize hcw : (ES.new c).cwnd = cw0 at *
  have HCW := Lib.hid hcw
  clear hcw hpa
  go_enter Tryd.func4, Tryd.ntmps4
  go_wp2_with fail
  refine (HR.out _).mono ?_
  rintro e w1 ⟨rfl, hb⟩
  have N1 := ni_k N0 hb
  clear N0 hb HR
  go_wp2_with fail
  refine (HN.out _ (HG.out.keep N1.out.bel)).mono ?_
  rintro e w2 hp
  obtain ⟨P, rfl, hE⟩ := hp.at_
  have E2 := Lib.hid hE
  have B2 := Lib.hid hp.bel
  clear hp hE HN
  go_wp2_with fail
  refine (HP0.out _ _ _ E2.out).mono ?_
  rintro e w3 ⟨rfl, hb⟩
  have E3 := Lib.hid (E2.out.keep hb)
  have B3 := Lib.hid (bel_to B2.out hb B2.out.size)
  clear hb E2 B2 HP0
  go_wp2_with fail
  refine (HC0.out _ _ _ E3.out).mono ?_
  rintro e w4 ⟨rfl, hb⟩
  have E4 := Lib.hid (E3.out.keep hb)
  have B4 := Lib.hid (bel_to B3.out hb B3.out.size)
  clear hb E3 B3 HC0
  go_wp2_with fail
  clear d0 d1 r0 r1 r2 r3 r4 r5
  go_loopw [9, 10] (fun wv iv wr => ∃ (k : Nat) (s : ES), iv = .int .i64 (k : Int) ∧ wv = .int .u64 (s.cwnd : Int) ∧ GrRel w1 c P l.length k s wr) (fun _ iv _ => l.length - (intOf iv).toNat)
  case atStart => exact ⟨0, ES.new c, rfl, by rw [HCW.out], Nat.zero_le _, HOk.out, HGr.out, by rw [HCW.out]; exact HCl.out, E4.out, B4.out⟩
  case round =>
    obtain ⟨k, s, rfl, rfl, hk, hok, hgr, hcl, hE, hB⟩ := hrel
    have E5 := Lib.hid hE
    have B5 := Lib.hid hB
    have BW := Lib.hid (N1.out.bel.trans (hB.mono N1.out.bel.size))
    clear hE hB E4 B4
    by_cases hlt : k < l.length
    · obtain ⟨b, off, rfl, hb0, hcell⟩ := HI.out (by omega)
      have i0 : (0 : Int) ≤ (k : Int) := by omega
      have i1 : (k : Int) < (l.length : Int) := by omega
      have hk9 : k ≤ 900 := by have := HLn.out; omega
      have HB0 := Lib.hid hb0
      have HCe := Lib.hid (hcell k hlt)
      clear hcell
      generalize l.getD k 0 = a at *
      have x0 : wr.cell? ⟨b, off + k, none⟩ = some (.int .u64 (a : Int)) := (BW.out.cell (p := ⟨b, off + k, none⟩) hb0).trans HCe.out
      by_cases ha : 72057594037927936 < a
      · have t0 : decide ((72057594037927936 : Int) < (a : Int)) = true := decide_eq_true (by omega)
        clear ha hok hgr hcl hb0
        go_wp2_with fail
        refine (HA.out _ (HG.out.keep BW.out)).mono ?_
        rintro e w6 ⟨rfl, hb⟩
        have B6 := Lib.hid (bel_to BW.out hb BW.out.size)
        clear hb
        go_wp2_with fail
        go_ret
        exact ⟨rfl, B6.out⟩
      · have t0 : decide ((72057594037927936 : Int) < (a : Int)) = false := decide_eq_false (by omega)
        have hcv : IntKind.u64.wrap (k : Int) = (k : Int) := by rw [IntKind.wrap_u64]; have := HLn.out; omega
        have hev := evG_ok (i := k) (a := a) (by omega) (by omega)
        have HO := Lib.hid (fun w h => en_On (B := w1.heap.size) (P := P) (s := s) (evG k a) hev w h hok hk9)
        have hg2 := grow_on HRt.out hgr (i := k) (a := a) (by omega) hcl
        have ok1 := ES.on_ok hok hev hk9
        have hp1 := HPe.out _ hg2.1
        have hadd : IntKind.u64.wrap ((s.cwnd : Int) + (a : Int)) = ((s.cwnd + a : Nat) : Int) := by rw [IntKind.wrap_u64]; omega
        have hmin : min ((s.cwnd + a : Nat) : Int) 72057594037927936 = (((s.on (evG k a)).cwnd : Nat) : Int) := by rw [hg2.2]; omega
        have hmin' : min ((s.cwnd : Int) + (a : Int)) 72057594037927936 = (((s.on (evG k a)).cwnd : Nat) : Int) := by rw [hg2.2]; omega
        have hle : (s.on (evG k a)).cwnd ≤ 72057594037927936 := by rw [hg2.2]; omega
        have hs0 := hg2.1.st
        have HG2 := Lib.hid hg2.1
        have OK1 := Lib.hid ok1
        have HLe := Lib.hid hle
        rw [show (evG k a).val = .agg #[.int .u64 (k : Int), .int .u64 0, .int .u64 0, .int .u64 0, .int .u64 0, .bool false, .bool false, .int .u64 0, .int .u64 (a : Int), .int .u64 0, .int .u64 0] from rfl] at HO
        clear hg2 hle
        generalize s.on (evG k a) = s' at *
        have HCw := Lib.hid (fun w h => en_Cwnd (B := w1.heap.size) (P := P) (s := s') w h)
        have HPa := Lib.hid (fun w h => en_Pace (B := w1.heap.size) (P := P) (s := s') w h ok1)
        have HSt := Lib.hid (fun w h => en_State (B := w1.heap.size) (P := P) (s := s') w h)
        rw [hs0] at HSt
        rw [hp1] at HPa
        have HCW2 : Hid (∃ z : Nat, s'.cwnd = z) := Lib.hid ⟨_, rfl⟩
        have hx1 : (s'.cwnd != s'.cwnd) = false := by simp
        have hx2 : ((s'.cwnd : Int) != (s'.cwnd : Int)) = false := by simp
        have hx3 : (pa != pa) = false := by simp
        have hx4 : ((pa : Int) != (pa : Int)) = false := by simp
        clear hok hgr hcl ok1 hp1 hs0 hev ha
        go_wp2_with fail
        refine (HO.out _ E5.out).mono ?_
        rintro e w6 h1
        obtain rfl := h1.e
        have E6 := Lib.hid h1.at_
        have B6 := Lib.hid (B5.out.trans h1.bel)
        have x1 : w6.cell? ⟨b, off + k, none⟩ = some (.int .u64 (a : Int)) := ((N1.out.bel.trans (B6.out.mono N1.out.bel.size)).cell (p := ⟨b, off + k, none⟩) hb0).trans HCe.out
        clear h1 E5 B5 x0 hb0 HO BW
        go_wp2_with fail
        refine (HCw.out _ E6.out).mono ?_
        rintro e w7 ⟨rfl, hb⟩
        have E7 := Lib.hid (E6.out.keep hb)
        have B7 := Lib.hid (bel_to B6.out hb B6.out.size)
        clear hb E6 B6
        go_wp2_with fail
        refine (HSt.out _ E7.out).mono ?_
        rintro e w8 ⟨rfl, hb⟩
        have E8 := Lib.hid (E7.out.keep hb)
        have B8 := Lib.hid (bel_to B7.out hb B7.out.size)
        clear hb E7 B7
        go_wp2_with fail
        refine (HPa.out _ E8.out).mono ?_
        rintro e w9 ⟨rfl, hb⟩
        have E9 := Lib.hid (E8.out.keep hb)
        have B9 := Lib.hid (bel_to B8.out hb B8.out.size)
        clear hb E8 B8
        go_wp2_with fail
        go_roundw
        case rel => exact ⟨k + 1, s', by go_num, rfl, by omega, OK1.out, HG2.out, HLe.out, E9.out, B9.out⟩
        case measure => simp [intOf]; omega
    · clear hok hgr hcl
      go_wp2_with fail
      refine (HA.out _ (HG.out.keep BW.out)).mono ?_
      rintro e w6 ⟨rfl, hb⟩
      have B6 := Lib.hid (bel_to BW.out hb BW.out.size)
      clear hb
      go_wp2_with fail
      go_ret
      exact ⟨rfl, B6.out⟩

theorem BbrGrows_walk (v : Option Addr) (len cap : Nat) (c : Setup) (l : List Nat) (W : World) (hc : ∀ k, c k ≤ 18446744073709551615) (h : InNums W v len l) (hg : Gl W) :
    Calls Tryd.prog 4 #[.agg (ccells c), .slice v len cap] W fun e w' => e = .returned (.bool true) ∧ Below W.heap.size W w' := by
  obtain ⟨rfl, _, h⟩ := h
  cases hr : rightC c with
  | false => exact grows_no v _ cap c hc W hg hr
  | true =>
    by_cases hn : 120 < l.length
    · exact grows_long v _ cap c hc W hg hr hn
    · exact grows_few v cap l c hc W hg h hr (by omega)
end Go.Proofs.YtpkbjfhicocogaaDoor
