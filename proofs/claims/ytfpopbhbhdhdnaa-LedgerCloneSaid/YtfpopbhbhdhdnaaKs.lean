/- Contracts of package ring over this translation: Shift, Pop. -/
import Derived.Test.YtfpopbhbhdhdnaaKe
set_option linter.unusedVariables false
namespace Go.Proofs.Ytfpopbhbhdhdnaa
open Go.RowKit

theorem RS.put_pos (s : RS) (i x j : Nat) : (s.put i x).pos j = s.pos j := by simp [RS.pos, RS.put]
theorem RS.put_ok {s : RS} (h : s.ok) (i x : Nat) : (s.put i x).ok := ⟨by simp only [RS.put, List.length_set]; exact h.c, by simp only [RS.put, List.length_set]; exact h.f, by simp only [RS.put, List.length_set]; exact h.m⟩
theorem RS.put_len (s : RS) (i x : Nat) : (s.put i x).pl.length = s.pl.length := by simp [RS.put]

set_option maxHeartbeats 1000000 in
theorem kring_Shift (b g : Nat) (s : RS) (w : World) (h : KRingAt w b g s) (ho : s.ok) (hc : 0 < s.cnt) :
    Calls Try.prog 54 #[.pointer (some ⟨b, 0, none⟩)] w (KPost w b g (kgot (s.get 0) true) s.shift) := by
  have HH := Lib.hid h
  have HO := Lib.hid ho
  have hp : 0 < s.pl.length := by have := ho.c; omega
  have HA : Hid (Calls Try.prog 20 #[.pointer (some ⟨b, 0, none⟩), .int .i64 0] w fun e w' => e = kgot (s.get 0) true ∧ Drawn w w') := Lib.hid (kring_At b g 0 s w h ho hc)
  have hcl : s.cnt ≤ 100000 := Nat.le_trans ho.c ho.m
  clear h ho
  generalize s.get 0 = x at *
  go_enter Try.func54, Try.ntmps54
  go_wp2_with fail
  refine (HA.out).mono ?_
  rintro e w1 ⟨rfl, hd⟩
  have HD := Lib.hid hd
  have HR1 := Lib.hid (hd.ring HH.out)
  have HM1 := Lib.hid ((Mv.refl w b g).drawn hd)
  clear hd HA
  unfold kgot
  go_wp2_with fail
  have HC : Hid (Calls Try.prog 76 #[.pointer (some ⟨b, 0, none⟩), .int .i64 0] w1 (KEPost w1 b g (s.put 0 0))) := Lib.hid (kring_empty b g 0 s w1 HR1.out HO.out hp (by omega))
  refine (HC.out).mono ?_
  rintro e w2 ⟨rfl, hat, hmv⟩
  have HR2 := Lib.hid hat
  have HM2 := Lib.hid (HM1.out.trans hmv (.inl rfl))
  clear hat hmv HC
  go_wp2_with fail
  have HC : Hid (Calls Try.prog 39 #[.pointer (some ⟨b, 0, none⟩), .int .i64 1] w2 fun e w' => e = .returned (.int .i64 ((s.pos 1 : Nat) : Int)) ∧ Drawn w2 w') := Lib.hid (by
    have := kring_place b g 1 (s.put 0 0) w2 HR2.out (RS.put_ok HO.out 0 0) (by rw [RS.put_len]; exact hp) (by omega)
    rw [RS.put_pos] at this
    exact this)
  refine (HC.out).mono ?_
  rintro e w3 ⟨rfl, hd⟩
  have HR3 := Lib.hid (hd.ring HR2.out)
  have HM3 := Lib.hid (HM2.out.drawn hd)
  clear hd HC
  have c1 := HR3.out.head.cell (i := 1) (v := .int .i64 (s.first : Int)) rfl
  have c2 := HR3.out.head.cell (i := 2) (v := .int .i64 (s.cnt : Int)) rfl
  have f1 := HR3.out.head.free 1
  have f2 := HR3.out.head.free 2
  go_wp2_with fail
  have HR4 : Hid (KRingAt ((w3.setCell ⟨b, 1, none⟩ (.int .i64 ((s.pos 1 : Nat) : Int))).setCell ⟨b, 2, none⟩ (.int .i64 ((s.cnt : Int) - 1))) b g s.shift0) := Lib.hid ⟨by
      have := (HR3.out.head.set 1 (.int .i64 ((s.pos 1 : Nat) : Int))).set 2 (.int .i64 ((s.cnt : Int) - 1))
      have e : ((s.cnt - 1 : Nat) : Int) = (s.cnt : Int) - 1 := by omega
      simpa [RS.cells, RS.shift0, e, RS.put] using this,
    (HR3.out.body.set_other _ _ (Ne.symm HR3.out.ne)).set_other _ _ (Ne.symm HR3.out.ne)⟩
  have HM4 := Lib.hid ((HM3.out.set (c := b) (.inl rfl) 1 (.int .i64 ((s.pos 1 : Nat) : Int))).set (c := b) (.inl rfl) 2 (.int .i64 ((s.cnt : Int) - 1)))
  generalize ((w3.setCell ⟨b, 1, none⟩ (.int .i64 ((s.pos 1 : Nat) : Int))).setCell ⟨b, 2, none⟩ (.int .i64 ((s.cnt : Int) - 1))) = w4 at *
  clear c1 c2 f1 f2
  refine (kring_narrow b g s.shift0 w4 HR4.out (RS.shift0_ok HO.out hc)).mono ?_
  rintro e w5 ⟨rfl, hat, hmv⟩
  have HR5 := Lib.hid hat
  have HM5 := Lib.hid (HM4.out.trans hmv (.inl rfl))
  have HZ := Lib.hid HM4.out.size
  clear hat hmv
  go_wp2_with fail
  go_ret2
  refine ⟨rfl, ?_, HM5.out⟩
  obtain ⟨g', h1, h2⟩ := HR5.out
  exact ⟨g', h1, by have := HZ.out; omega⟩

theorem kring_Shift_none (b g : Nat) (s : RS) (w : World) (h : KRingAt w b g s) (hc : s.cnt = 0) :
    Calls Try.prog 54 #[.pointer (some ⟨b, 0, none⟩)] w (KPost w b g (kgot 0 false) s) := by
  have HH := Lib.hid h
  have HA := Lib.hid (kring_At_out b g 0 s w h (.inr (by omega)))
  clear h hc
  go_enter Try.func54, Try.ntmps54
  go_wp2_with fail
  refine (HA.out).mono ?_
  rintro e w1 ⟨rfl, hd⟩
  have HD := Lib.hid hd
  clear hd HA
  unfold kgot
  go_wp2_with fail
  go_ret2
  exact ⟨rfl, ⟨g, HD.out.ring HH.out, .inl rfl⟩, (Mv.refl w b g).drawn HD.out⟩

end Go.Proofs.Ytfpopbhbhdhdnaa
