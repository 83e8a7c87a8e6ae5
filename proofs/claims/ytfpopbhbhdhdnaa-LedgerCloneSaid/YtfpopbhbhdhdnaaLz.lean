/- narrow over this translation: the walk. -/
import Derived.Test.YtfpopbhbhdhdnaaLy
import Derived.IntWalk
set_option linter.unusedVariables false
namespace Go.Proofs.Ytfpopbhbhdhdnaa
open Go.RowKit

set_option maxRecDepth 100000 in
set_option maxHeartbeats 2000000 in
theorem narrow_any (b rb g : Nat) (s : LS) (w : World) (h : LAt w b rb g s) (hs : s.ok) :
    Calls Try.prog 29 #[.pointer (some ⟨b, 0, none⟩)] w (NarPost w b rb g s) := by
  have l0 := h.rd.cell0
  obtain ⟨p0, q0, HV0⟩ : ∃ p q, Hid (NarV s.ks p q) := ⟨_, _, Lib.hid ⟨rfl, rfl⟩⟩
  have HF := Lib.hid (led_first b rb g s.ks w h.rd p0 q0 HV0.out)
  have HH := Lib.hid h
  have HS := Lib.hid hs
  have HLen : Hid (s.ks.length ≤ 500) := Lib.hid (Nat.le_trans (LS.len_le hs) hs.next)
  have ho := LS.out_le hs
  obtain ⟨o, hoo⟩ : ∃ o, (outK s.ks).length = o := ⟨_, rfl⟩
  rw [hoo] at ho
  have HOut := Lib.hid hoo
  clear h hs hoo
  go_enter Try.func29, Try.ntmps29
  go_wp2_with fail
  refine (HF.out).mono ?_
  rintro e w1 ⟨rfl, hd⟩
  have HI0 : Hid (NarI w b rb g s s.ks w1) := Lib.hid (NarI.drawn ⟨⟨g, HH.out, .inl rfl⟩, List.suffix_refl _, rfl, Fr.refl _ _⟩ hd)
  clear hd HF l0
  go_wp2_with fail
  go_loopw [2, 3] (fun p ok wr => ∃ ks q, ok = .bool q ∧ NarV ks p q ∧ NarI w b rb g s ks wr) (fun _ _ wr => rowN wr rb)
  case atStart => exact ⟨s.ks, _, rfl, HV0.out, HI0.out⟩
  case round =>
    obtain ⟨ks, q, rfl, hV, hI⟩ := hrel
    clear HI0 HV0
    rcases ks with _ | ⟨k, t⟩
    · obtain ⟨rfl, rfl⟩ := hV
      simp only [headP, headB]
      have HI := Lib.hid hI
      obtain ⟨g1, hl1, _⟩ := hI.led
      have HL := Lib.hid (fun m => (led_len b rb g1 (([] : List Kp)) (wr.drewN m) (hl1.rd.keep (Drawn.below ⟨m, rfl⟩ _))).mono (fun e w' (h : e = _ ∧ wr.drewN m = w') => (⟨h.1, h.2.symm⟩ : e = _ ∧ w' = wr.drewN m)))
      have r0 := hl1.rd.cell0
      have r1 : wr.cell? ⟨b, 1, none⟩ = some (.int .i64 (o : Int)) := hl1.head.cell (i := 1) (by rw [← HOut.out, ← hI.out]; rfl)
      have hkl : (([] : List Kp)).length ≤ 500 := Nat.le_trans hI.suf.length_le HLen.out
      have HKs := Lib.hid (LS.sub_ok HS.out hI.suf.sublist)
      have hwr : IntKind.i64.wrap (2 * (o : Int)) = 2 * (o : Int) := IntWalk.i64_in _ (by omega)
      clear hI hl1
      generalize hn : (([] : List Kp)).length = nk at hkl HL
      have HNk := Lib.hid hn
      clear hn
      by_cases hgt : 2 * o < nk
      · have d1 : decide (2 * (o : Int) < (nk : Int)) = true := decide_eq_true (by omega)
        have HGt := Lib.hid hgt
        clear hgt
        go_wp2_with fail
        go_quiet ((go_at_call 21; exact Calls.quiet_of_same (HL.out _)))
        have HI1 := Lib.hid (HI.out.drawn ⟨nq, rfl⟩)
        clear r0 r1 hwr HI HL
        generalize wr.drewN nq = w1 at *
        have HC := Lib.hid (all_any b w1)
        obtain ⟨g2, hl2, _⟩ := HI1.out.led
        have HR2 := Lib.hid ((hl2.keep (bw1_below w1 b 0 18446744073709551615)).rdr (bw1_l w1 b 0 18446744073709551615) (bw1_r w1 b 0 18446744073709551615))
        have HCol := Lib.hid (collect_any b rb g2 w1.heap.size (w1.heap.size + 1) 0 18446744073709551615 (([] : List Kp)) (bw1 w1 b 0 18446744073709551615) HR2.out HKs.out.nodup HKs.out.rise (by rw [HNk.out]; exact hkl))
        clear hl2
        go_wp2_with fail
        refine (HC.out).mono ?_
        rintro e w2 ⟨rfl, rfl⟩
        unfold bfn
        go_wp2_with fail
        refine (HCol.out).mono ?_
        rintro e w3 ⟨v, rfl, h1, h2, h3⟩
        obtain ⟨p, c, rfl⟩ := h1.form
        have HB3 := Lib.hid (bel_to (bw1_below w1 b 0 18446744073709551615) h3 (by rw [bw1_size]; omega))
        have HNw := Lib.hid (k_new p c _ w3 h1.nums (by rw [itemsK_len]; have := List.length_filter_le (inK 0 18446744073709551615) (([] : List Kp)); unfold yK; rw [HNk.out] at this; omega))
        clear h1 h2 h3 HC HCol HR2
        go_wp2_with fail
        refine (HNw.out).mono ?_
        rintro e w4 ⟨⟨rb2, g3, rfl, h1, h2, h3⟩, h4⟩
        have HB4 := Lib.hid (bel_to HB3.out h4 HB3.out.size)
        have HNP := Lib.hid (nar_new (w1 := w1) (w2 := w1) HS.out.pk HI1.out HB4.out (by rw [← yK_all (ks := ([] : List Kp)) HKs.out.pk]; exact h1) (Nat.le_trans HB3.out.size h2) (Nat.le_trans HB3.out.size h3))
        obtain ⟨g5, hl5, _⟩ := HI1.out.led
        have f0 := (hl5.head.keep HB4.out).free 0
        have c0 := (hl5.head.keep HB4.out).cell (i := 0) (v := .pointer (some ⟨rb, 0, none⟩)) rfl
        clear h1 h2 h3 h4 hl5 HNw
        go_wp2_with fail
        go_end0
        exact HNP.out
      · have d1 : decide (2 * (o : Int) < (nk : Int)) = false := decide_eq_false (by omega)
        clear hgt
        go_wp2_with fail
        go_quiet ((go_at_call 21; exact Calls.quiet_of_same (HL.out _)))
        have HI1 := Lib.hid (HI.out.drawn ⟨nq, rfl⟩)
        clear r0 r1 hwr HI HL
        go_wp2_with fail
        go_end0
        exact nar_done HI1.out
    · obtain ⟨rfl, rfl⟩ := hV
      simp only [headP, headB]
      have hk7 : wr.cell? ⟨k.b, 7, none⟩ = some (.bool k.gone) := by
        obtain ⟨g1, hl1, _⟩ := hI.led
        exact (kcell (hl1.kept k List.mem_cons_self)).2.2.2.2.2.2.2
      cases hgn : k.gone
      · rw [hgn] at hk7
        have HI := Lib.hid hI
        obtain ⟨g1, hl1, _⟩ := hI.led
        have HL := Lib.hid (fun m => (led_len b rb g1 (k :: t) (wr.drewN m) (hl1.rd.keep (Drawn.below ⟨m, rfl⟩ _))).mono (fun e w' (h : e = _ ∧ wr.drewN m = w') => (⟨h.1, h.2.symm⟩ : e = _ ∧ w' = wr.drewN m)))
        have r0 := hl1.rd.cell0
        have r1 : wr.cell? ⟨b, 1, none⟩ = some (.int .i64 (o : Int)) := hl1.head.cell (i := 1) (by rw [← HOut.out, ← hI.out]; rfl)
        have hkl : (k :: t).length ≤ 500 := Nat.le_trans hI.suf.length_le HLen.out
        have HKs := Lib.hid (LS.sub_ok HS.out hI.suf.sublist)
        have hwr : IntKind.i64.wrap (2 * (o : Int)) = 2 * (o : Int) := IntWalk.i64_in _ (by omega)
        clear hI hl1
        generalize hn : (k :: t).length = nk at hkl HL
        have HNk := Lib.hid hn
        clear hn
        by_cases hgt : 2 * o < nk
        · have d1 : decide (2 * (o : Int) < (nk : Int)) = true := decide_eq_true (by omega)
          have HGt := Lib.hid hgt
          clear hgt
          go_wp2_with fail
          go_quiet ((go_at_call 21; exact Calls.quiet_of_same (HL.out _)))
          have HI1 := Lib.hid (HI.out.drawn ⟨nq, rfl⟩)
          clear r0 r1 hwr HI HL
          generalize wr.drewN nq = w1 at *
          have HC := Lib.hid (all_any b w1)
          obtain ⟨g2, hl2, _⟩ := HI1.out.led
          have HR2 := Lib.hid ((hl2.keep (bw1_below w1 b 0 18446744073709551615)).rdr (bw1_l w1 b 0 18446744073709551615) (bw1_r w1 b 0 18446744073709551615))
          have HCol := Lib.hid (collect_any b rb g2 w1.heap.size (w1.heap.size + 1) 0 18446744073709551615 (k :: t) (bw1 w1 b 0 18446744073709551615) HR2.out HKs.out.nodup HKs.out.rise (by rw [HNk.out]; exact hkl))
          clear hl2
          go_wp2_with fail
          refine (HC.out).mono ?_
          rintro e w2 ⟨rfl, rfl⟩
          unfold bfn
          go_wp2_with fail
          refine (HCol.out).mono ?_
          rintro e w3 ⟨v, rfl, h1, h2, h3⟩
          obtain ⟨p, c, rfl⟩ := h1.form
          have HB3 := Lib.hid (bel_to (bw1_below w1 b 0 18446744073709551615) h3 (by rw [bw1_size]; omega))
          have HNw := Lib.hid (k_new p c _ w3 h1.nums (by rw [itemsK_len]; have := List.length_filter_le (inK 0 18446744073709551615) (k :: t); unfold yK; rw [HNk.out] at this; omega))
          clear h1 h2 h3 HC HCol HR2
          go_wp2_with fail
          refine (HNw.out).mono ?_
          rintro e w4 ⟨⟨rb2, g3, rfl, h1, h2, h3⟩, h4⟩
          have HB4 := Lib.hid (bel_to HB3.out h4 HB3.out.size)
          have HNP := Lib.hid (nar_new (w1 := w1) (w2 := w1) HS.out.pk HI1.out HB4.out (by rw [← yK_all (ks := k :: t) HKs.out.pk]; exact h1) (Nat.le_trans HB3.out.size h2) (Nat.le_trans HB3.out.size h3))
          obtain ⟨g5, hl5, _⟩ := HI1.out.led
          have f0 := (hl5.head.keep HB4.out).free 0
          have c0 := (hl5.head.keep HB4.out).cell (i := 0) (v := .pointer (some ⟨rb, 0, none⟩)) rfl
          clear h1 h2 h3 h4 hl5 HNw
          go_wp2_with fail
          go_end0
          exact HNP.out
        · have d1 : decide (2 * (o : Int) < (nk : Int)) = false := decide_eq_false (by omega)
          clear hgt
          go_wp2_with fail
          go_quiet ((go_at_call 21; exact Calls.quiet_of_same (HL.out _)))
          have HI1 := Lib.hid (HI.out.drawn ⟨nq, rfl⟩)
          clear r0 r1 hwr HI HL
          go_wp2_with fail
          go_end0
          exact nar_done HI1.out
      · rw [hgn] at hk7
        obtain ⟨g1, hl1, hg1⟩ := hI.led
        have r0 := hl1.rd.cell0
        have HI := Lib.hid hI
        have HSh := Lib.hid (k_shift rb g1 (k.b + 1) (itemsK t) wr hl1.row)
        have HL1 := Lib.hid hl1
        have HG1 := Lib.hid hg1
        have HGn := Lib.hid hgn
        have HRn := Lib.hid (rowN_eq hl1.row)
        clear hI hl1 hg1 hgn
        go_wp2_with fail
        refine (HSh.out).mono ?_
        rintro e w2 hp
        obtain rfl := hp.e
        have HI2 := Lib.hid (nar_shift HL1.out HG1.out HI.out.suf HI.out.out HGn.out HI.out.fr hp)
        obtain ⟨g2, hl2, _⟩ := HI2.out.led
        have r0 := hl2.rd.cell0
        obtain ⟨p2, q2, HV2⟩ : ∃ p q, Hid (NarV t p q) := ⟨_, _, Lib.hid ⟨rfl, rfl⟩⟩
        have HF2 := Lib.hid (led_first b rb g2 t w2 hl2.rd p2 q2 HV2.out)
        clear hp hl2 HSh hk7
        unfold kgot
        go_wp2_with fail
        refine (HF2.out).mono ?_
        rintro e w3 ⟨rfl, hd⟩
        have HI3 := Lib.hid (HI2.out.drawn hd)
        clear hd r0 HF2 HI2
        go_wp2_with fail
        go_roundw
        case rel => exact ⟨t, _, rfl, HV2.out, HI3.out⟩
        case measure =>
          obtain ⟨g3, hl3, _⟩ := HI3.out.led
          rw [rowN_eq hl3.row, HRn.out]
          simp [itemsK, LS.with_]
end Go.Proofs.Ytfpopbhbhdhdnaa
