/- Contracts of package ring over this translation: Push, Shift, Pop. -/
import Derived.Test.YtfpopbhbhdhdnaaKd
set_option linter.unusedVariables false
namespace Go.Proofs.Ytfpopbhbhdhdnaa
open Go.RowKit

set_option maxHeartbeats 1000000 in
theorem kring_Push (b g x : Nat) (s : RS) (w : World) (h : KRingAt w b g s) (ho : s.ok) (hk : s.cnt ≤ 1000) :
    Calls Try.prog 22 #[.pointer (some ⟨b, 0, none⟩), .pointer (pa (x))] w (KPost w b g (.returned (.tuple #[])) (s.push x)) := by
  have HH := Lib.hid h
  have HO := Lib.hid ho
  have b0 := h.head.cell (i := 0) (v := .slice (some ⟨g, 0, none⟩) s.pl.length s.pl.length) rfl
  have b2 := h.head.cell (i := 2) (v := .int .i64 (s.cnt : Int)) rfl
  have hm := ho.m
  have hc := ho.c
  clear h ho
  by_cases a : s.cnt = s.pl.length
  · by_cases z : 1 ≤ s.cnt
    · have HE : Hid (s.wide = s.move (2 * s.cnt)) := Lib.hid (by unfold RS.wide; rw [if_pos a]; congr 1; omega)
      have z1 : (1 : Int) < 2 * (s.cnt : Int) := by omega
      have d1 : (s.cnt == s.pl.length) = true := by simpa using a
      have HA := Lib.hid a
      clear a
      go_enter Try.func22, Try.ntmps22
      go_wp2_with fail
      go_quiet (fail)
      have HD : Hid (Drawn w (w.drewN nq)) := Lib.hid ⟨nq, rfl⟩
      have q2 := (HD.out.cell _).trans b2
      generalize w.drewN nq = w1 at *
      go_wp2_with fail
      have HC : Hid (Calls Try.prog 40 #[.pointer (some ⟨b, 0, none⟩), .int .i64 (2 * (s.cnt : Int))] w1 (KPost w1 b g (.returned (.tuple #[])) (s.move (2 * s.cnt)))) := Lib.hid (by have := kring_move b g (2 * s.cnt) s w1 (HD.out.ring HH.out) HO.out (by omega) (by omega); simpa using this)
      refine (HC.out).mono ?_
      rintro e w2 ⟨rfl, hat, hmv⟩
      obtain ⟨g2, hg2, hgq⟩ := hat
      rw [← HE.out] at hg2
      have HG := Lib.hid hg2
      have HQ : Hid (g2 = g ∨ w.heap.size ≤ g2) := Lib.hid (by rw [HD.out.heap] at hgq; exact hgq)
      have HM2 := Lib.hid (((Mv.refl w b g).drawn HD.out).trans hmv (.inl rfl))
      clear hg2 hgq hmv q2 HE b0 b2 HD HC z1
      have HO2 := Lib.hid (RS.wide_ok HO.out hk)
      have HC2 := Lib.hid (RS.wide_cnt s)
      have HR2 := Lib.hid (RS.wide_room HO.out)
      have HPU : Hid (s.push x = ⟨s.wide.pl.set (s.wide.pos s.cnt) x, s.wide.first, s.cnt + 1⟩) := Lib.hid rfl
      generalize s.wide = t at *
      generalize s.push x = u at *
      obtain ⟨t1, t2, t3⟩ := t
      obtain rfl : t3 = s.cnt := HC2.out
      have hr : s.cnt < t1.length := HR2.out
      have hpl := RS.pos_lt (s := ⟨t1, t2, s.cnt⟩) (by show 0 < t1.length; omega) s.cnt
      have c0 := HG.out.head.drew.cell (i := 0) (v := .slice (some ⟨g2, 0, none⟩) t1.length t1.length) rfl
      have c2 := HG.out.head.drew.cell (i := 2) (v := .int .i64 (s.cnt : Int)) rfl
      have c3 := HG.out.body.drew.cell (i := RS.pos ⟨t1, t2, s.cnt⟩ s.cnt) (kcells_at hpl)
      have c4 := HG.out.body.drew.free (RS.pos ⟨t1, t2, s.cnt⟩ s.cnt)
      have k2 := HG.out.head.drew.free 2
      have HN2 := Lib.hid HG.out.ne
      have HP := Lib.hid (kring_place b g2 s.cnt ⟨t1, t2, s.cnt⟩)
      have i3 : (0 : Int) ≤ ((RS.pos ⟨t1, t2, s.cnt⟩ s.cnt : Nat) : Int) := by omega
      have i4 : ((RS.pos ⟨t1, t2, s.cnt⟩ s.cnt : Nat) : Int) < (t1.length : Int) := by exact_mod_cast hpl
      have i5 : RS.pos ⟨t1, t2, s.cnt⟩ s.cnt < t1.length := hpl
      clear hpl
      generalize t1.getD (RS.pos ⟨t1, t2, s.cnt⟩ s.cnt) 0 = y at *
      generalize RS.pos ⟨t1, t2, s.cnt⟩ s.cnt = p at *
      go_wp2_with fail
      go_region_held3 (fun w' => w'.cell? ⟨b, 0, none⟩ = some (.slice (some ⟨g2, 0, none⟩) t1.length t1.length) ∧ w'.cell? ⟨b, 2, none⟩ = some (.int .i64 (s.cnt : Int)))
        (first | exact ⟨c0, c2⟩ | exact ⟨e0, e2⟩ | exact two_far e0 e2 HN2.out HN2.out)
        (first | (go_at_call 39; refine (HP.out _ ((Drawn.drew w2).ring HG.out) HO2.out (by show 0 < t1.length; omega) (by omega)).mono ?_; rintro e w' ⟨rfl, hd⟩; have HD3 := Lib.hid hd; clear hd; have e0 := (HD3.out.cell _).trans c0; have e2 := (HD3.out.cell _).trans c2; have e3 := (HD3.out.cell _).trans c3; have e4 := (HD3.out.frozen _).trans c4; have e5 := (HD3.out.frozen _).trans k2))
      have hD : Drawn w2 w' := (Drawn.drew w2).more HD3.out
      have F1 := Lib.hid ((hD.blk HG.out.body).set p (.pointer (pa (x))))
      have F2 := Lib.hid ((hD.blk HG.out.head).set_other p (.pointer (pa (x))) HN2.out)
      have F3 := Lib.hid ((HM2.out.drawn hD).set (c := g2) (by have := HQ.out; omega) p (.pointer (pa (x))))
      rw [kcells_set] at F1
      generalize (w'.setCell ⟨g2, p, none⟩ (.pointer (pa (x)))) = w3 at *
      clear e0 e2 e3 e4 e5 c0 c2 c3 c4 k2 hD HD3 HP i3 i4 i5
      have m2 := F2.out.cell (i := 2) (v := .int .i64 (s.cnt : Int)) rfl
      have n2 := F2.out.free 2
      go_wp2_with fail
      go_end0
      refine ⟨rfl, ⟨g2, ⟨?_, ?_⟩, HQ.out⟩, F3.out.set (.inl rfl) _ _⟩
      · have := F2.out.set 2 (.int .i64 ((s.cnt : Int) + 1))
        rw [HPU.out]
        simpa [RS.cells] using this
      · rw [HPU.out]
        exact F1.out.set_other _ _ (Ne.symm HN2.out)
    · have HE : Hid (s.wide = s.move 1) := Lib.hid (by unfold RS.wide; rw [if_pos a]; congr 1; omega)
      have z1 : 2 * (s.cnt : Int) ≤ 1 := by omega
      have d1 : (s.cnt == s.pl.length) = true := by simpa using a
      have HA := Lib.hid a
      clear a
      go_enter Try.func22, Try.ntmps22
      go_wp2_with fail
      go_quiet (fail)
      have HD : Hid (Drawn w (w.drewN nq)) := Lib.hid ⟨nq, rfl⟩
      have q2 := (HD.out.cell _).trans b2
      generalize w.drewN nq = w1 at *
      go_wp2_with fail
      have HC : Hid (Calls Try.prog 40 #[.pointer (some ⟨b, 0, none⟩), .int .i64 1] w1 (KPost w1 b g (.returned (.tuple #[])) (s.move 1))) := Lib.hid (by have := kring_move b g 1 s w1 (HD.out.ring HH.out) HO.out (by omega) (by omega); simpa using this)
      refine (HC.out).mono ?_
      rintro e w2 ⟨rfl, hat, hmv⟩
      obtain ⟨g2, hg2, hgq⟩ := hat
      rw [← HE.out] at hg2
      have HG := Lib.hid hg2
      have HQ : Hid (g2 = g ∨ w.heap.size ≤ g2) := Lib.hid (by rw [HD.out.heap] at hgq; exact hgq)
      have HM2 := Lib.hid (((Mv.refl w b g).drawn HD.out).trans hmv (.inl rfl))
      clear hg2 hgq hmv q2 HE b0 b2 HD HC z1
      have HO2 := Lib.hid (RS.wide_ok HO.out hk)
      have HC2 := Lib.hid (RS.wide_cnt s)
      have HR2 := Lib.hid (RS.wide_room HO.out)
      have HPU : Hid (s.push x = ⟨s.wide.pl.set (s.wide.pos s.cnt) x, s.wide.first, s.cnt + 1⟩) := Lib.hid rfl
      generalize s.wide = t at *
      generalize s.push x = u at *
      obtain ⟨t1, t2, t3⟩ := t
      obtain rfl : t3 = s.cnt := HC2.out
      have hr : s.cnt < t1.length := HR2.out
      have hpl := RS.pos_lt (s := ⟨t1, t2, s.cnt⟩) (by show 0 < t1.length; omega) s.cnt
      have c0 := HG.out.head.drew.cell (i := 0) (v := .slice (some ⟨g2, 0, none⟩) t1.length t1.length) rfl
      have c2 := HG.out.head.drew.cell (i := 2) (v := .int .i64 (s.cnt : Int)) rfl
      have c3 := HG.out.body.drew.cell (i := RS.pos ⟨t1, t2, s.cnt⟩ s.cnt) (kcells_at hpl)
      have c4 := HG.out.body.drew.free (RS.pos ⟨t1, t2, s.cnt⟩ s.cnt)
      have k2 := HG.out.head.drew.free 2
      have HN2 := Lib.hid HG.out.ne
      have HP := Lib.hid (kring_place b g2 s.cnt ⟨t1, t2, s.cnt⟩)
      have i3 : (0 : Int) ≤ ((RS.pos ⟨t1, t2, s.cnt⟩ s.cnt : Nat) : Int) := by omega
      have i4 : ((RS.pos ⟨t1, t2, s.cnt⟩ s.cnt : Nat) : Int) < (t1.length : Int) := by exact_mod_cast hpl
      have i5 : RS.pos ⟨t1, t2, s.cnt⟩ s.cnt < t1.length := hpl
      clear hpl
      generalize t1.getD (RS.pos ⟨t1, t2, s.cnt⟩ s.cnt) 0 = y at *
      generalize RS.pos ⟨t1, t2, s.cnt⟩ s.cnt = p at *
      go_wp2_with fail
      go_region_held3 (fun w' => w'.cell? ⟨b, 0, none⟩ = some (.slice (some ⟨g2, 0, none⟩) t1.length t1.length) ∧ w'.cell? ⟨b, 2, none⟩ = some (.int .i64 (s.cnt : Int)))
        (first | exact ⟨c0, c2⟩ | exact ⟨e0, e2⟩ | exact two_far e0 e2 HN2.out HN2.out)
        (first | (go_at_call 39; refine (HP.out _ ((Drawn.drew w2).ring HG.out) HO2.out (by show 0 < t1.length; omega) (by omega)).mono ?_; rintro e w' ⟨rfl, hd⟩; have HD3 := Lib.hid hd; clear hd; have e0 := (HD3.out.cell _).trans c0; have e2 := (HD3.out.cell _).trans c2; have e3 := (HD3.out.cell _).trans c3; have e4 := (HD3.out.frozen _).trans c4; have e5 := (HD3.out.frozen _).trans k2))
      have hD : Drawn w2 w' := (Drawn.drew w2).more HD3.out
      have F1 := Lib.hid ((hD.blk HG.out.body).set p (.pointer (pa (x))))
      have F2 := Lib.hid ((hD.blk HG.out.head).set_other p (.pointer (pa (x))) HN2.out)
      have F3 := Lib.hid ((HM2.out.drawn hD).set (c := g2) (by have := HQ.out; omega) p (.pointer (pa (x))))
      rw [kcells_set] at F1
      generalize (w'.setCell ⟨g2, p, none⟩ (.pointer (pa (x)))) = w3 at *
      clear e0 e2 e3 e4 e5 c0 c2 c3 c4 k2 hD HD3 HP i3 i4 i5
      have m2 := F2.out.cell (i := 2) (v := .int .i64 (s.cnt : Int)) rfl
      have n2 := F2.out.free 2
      go_wp2_with fail
      go_end0
      refine ⟨rfl, ⟨g2, ⟨?_, ?_⟩, HQ.out⟩, F3.out.set (.inl rfl) _ _⟩
      · have := F2.out.set 2 (.int .i64 ((s.cnt : Int) + 1))
        rw [HPU.out]
        simpa [RS.cells] using this
      · rw [HPU.out]
        exact F1.out.set_other _ _ (Ne.symm HN2.out)
  · have HE : Hid (s.wide = s) := Lib.hid (if_neg a)
    have d1 : (s.cnt == s.pl.length) = false := by simpa using a
    have HA := Lib.hid a
    clear a
    go_enter Try.func22, Try.ntmps22
    go_wp2_with fail
    go_quiet (fail)
    have HD : Hid (Drawn w (w.drewN nq)) := Lib.hid ⟨nq, rfl⟩
    have q2 := (HD.out.cell _).trans b2
    have HG : Hid (KRingAt (w.drewN nq) b g s.wide) := Lib.hid (by rw [HE.out]; exact HD.out.ring HH.out)
    have HM2 := Lib.hid ((Mv.refl w b g).drawn HD.out)
    obtain ⟨g2, hg2⟩ : ∃ g2, g2 = g := ⟨_, rfl⟩
    have HQ : Hid (g2 = g ∨ w.heap.size ≤ g2) := Lib.hid (.inl hg2)
    rw [← hg2] at HG
    generalize w.drewN nq = w2 at *
    clear hg2 HE b0 b2 HD q2
    have HO2 := Lib.hid (RS.wide_ok HO.out hk)
    have HC2 := Lib.hid (RS.wide_cnt s)
    have HR2 := Lib.hid (RS.wide_room HO.out)
    have HPU : Hid (s.push x = ⟨s.wide.pl.set (s.wide.pos s.cnt) x, s.wide.first, s.cnt + 1⟩) := Lib.hid rfl
    generalize s.wide = t at *
    generalize s.push x = u at *
    obtain ⟨t1, t2, t3⟩ := t
    obtain rfl : t3 = s.cnt := HC2.out
    have hr : s.cnt < t1.length := HR2.out
    have hpl := RS.pos_lt (s := ⟨t1, t2, s.cnt⟩) (by show 0 < t1.length; omega) s.cnt
    have c0 := HG.out.head.drew.cell (i := 0) (v := .slice (some ⟨g2, 0, none⟩) t1.length t1.length) rfl
    have c2 := HG.out.head.drew.cell (i := 2) (v := .int .i64 (s.cnt : Int)) rfl
    have c3 := HG.out.body.drew.cell (i := RS.pos ⟨t1, t2, s.cnt⟩ s.cnt) (kcells_at hpl)
    have c4 := HG.out.body.drew.free (RS.pos ⟨t1, t2, s.cnt⟩ s.cnt)
    have k2 := HG.out.head.drew.free 2
    have HN2 := Lib.hid HG.out.ne
    have HP := Lib.hid (kring_place b g2 s.cnt ⟨t1, t2, s.cnt⟩)
    have i3 : (0 : Int) ≤ ((RS.pos ⟨t1, t2, s.cnt⟩ s.cnt : Nat) : Int) := by omega
    have i4 : ((RS.pos ⟨t1, t2, s.cnt⟩ s.cnt : Nat) : Int) < (t1.length : Int) := by exact_mod_cast hpl
    have i5 : RS.pos ⟨t1, t2, s.cnt⟩ s.cnt < t1.length := hpl
    clear hpl
    generalize t1.getD (RS.pos ⟨t1, t2, s.cnt⟩ s.cnt) 0 = y at *
    generalize RS.pos ⟨t1, t2, s.cnt⟩ s.cnt = p at *
    go_wp2_with fail
    go_region_held3 (fun w' => w'.cell? ⟨b, 0, none⟩ = some (.slice (some ⟨g2, 0, none⟩) t1.length t1.length) ∧ w'.cell? ⟨b, 2, none⟩ = some (.int .i64 (s.cnt : Int)))
      (first | exact ⟨c0, c2⟩ | exact ⟨e0, e2⟩ | exact two_far e0 e2 HN2.out HN2.out)
      (first | (go_at_call 39; refine (HP.out _ ((Drawn.drew w2).ring HG.out) HO2.out (by show 0 < t1.length; omega) (by omega)).mono ?_; rintro e w' ⟨rfl, hd⟩; have HD3 := Lib.hid hd; clear hd; have e0 := (HD3.out.cell _).trans c0; have e2 := (HD3.out.cell _).trans c2; have e3 := (HD3.out.cell _).trans c3; have e4 := (HD3.out.frozen _).trans c4; have e5 := (HD3.out.frozen _).trans k2))
    have hD : Drawn w2 w' := (Drawn.drew w2).more HD3.out
    have F1 := Lib.hid ((hD.blk HG.out.body).set p (.pointer (pa (x))))
    have F2 := Lib.hid ((hD.blk HG.out.head).set_other p (.pointer (pa (x))) HN2.out)
    have F3 := Lib.hid ((HM2.out.drawn hD).set (c := g2) (by have := HQ.out; omega) p (.pointer (pa (x))))
    rw [kcells_set] at F1
    generalize (w'.setCell ⟨g2, p, none⟩ (.pointer (pa (x)))) = w3 at *
    clear e0 e2 e3 e4 e5 c0 c2 c3 c4 k2 hD HD3 HP i3 i4 i5
    have m2 := F2.out.cell (i := 2) (v := .int .i64 (s.cnt : Int)) rfl
    have n2 := F2.out.free 2
    go_wp2_with fail
    go_end0
    refine ⟨rfl, ⟨g2, ⟨?_, ?_⟩, HQ.out⟩, F3.out.set (.inl rfl) _ _⟩
    · have := F2.out.set 2 (.int .i64 ((s.cnt : Int) + 1))
      rw [HPU.out]
      simpa [RS.cells] using this
    · rw [HPU.out]
      exact F1.out.set_other _ _ (Ne.symm HN2.out)
end Go.Proofs.Ytfpopbhbhdhdnaa
