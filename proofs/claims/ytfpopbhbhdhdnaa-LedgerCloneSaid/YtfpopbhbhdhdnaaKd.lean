/- Contracts of package ring over this translation, the methods that are called from outside. -/
import Derived.Test.YtfpopbhbhdhdnaaKc
set_option linter.unusedVariables false
namespace Go.Proofs.Ytfpopbhbhdhdnaa
open Go.RowKit

theorem KPost.same {w w' : World} {b g : Nat} {v : Ending} {s t : RS} {e : Ending} (h : KPost w b g v s e w') (hs : s = t) : KPost w b g v t e w' := by subst hs; exact h

set_option maxHeartbeats 400000 in
theorem kring_narrow (b g : Nat) (s : RS) (w : World) (h : KRingAt w b g s) (ho : s.ok) :
    Calls Try.prog 77 #[.pointer (some ⟨b, 0, none⟩)] w (KPost w b g (.returned (.tuple #[])) s.narrow) := by
  have HH := Lib.hid h
  have HO := Lib.hid ho
  have c0 := h.head.cell (i := 0) (v := .slice (some ⟨g, 0, none⟩) s.pl.length s.pl.length) rfl
  have c2 := h.head.cell (i := 2) (v := .int .i64 (s.cnt : Int)) rfl
  have hm := ho.m
  have hc := ho.c
  clear h ho
  by_cases a : 0 < s.cnt
  · by_cases d : s.cnt ≤ s.pl.length / 4
    · have HE : Hid (s.narrow = s.move (s.pl.length / 2)) := Lib.hid (if_pos ⟨a, d⟩)
      have d1 : decide ((s.cnt : Int) ≤ (s.pl.length : Int) / 4) = true := by simp; omega
      go_enter Try.func77, Try.ntmps77
      go_wp2_with fail
      go_quiet (fail)
      have HD : Hid (Drawn w (w.drewN nq)) := Lib.hid ⟨nq, rfl⟩
      have e0 := (HD.out.cell _).trans c0
      generalize w.drewN nq = w1 at *
      go_wp2_with fail
      have e : ((s.pl.length : Int) / 2) = ((s.pl.length / 2 : Nat) : Int) := by omega
      rw [e]
      clear e
      refine (kring_move b g (s.pl.length / 2) s w1 (HD.out.ring HH.out) HO.out (by omega) (by omega)).mono ?_
      rintro e w2 ⟨rfl, hat, hmv⟩
      have HA := Lib.hid hat
      have HM := Lib.hid hmv
      clear hat hmv
      go_wp2_with fail
      go_end0
      obtain ⟨g', h1, h2⟩ := HA.out
      rw [HE.out]
      exact ⟨rfl, ⟨g', h1, by rw [HD.out.heap] at h2; exact h2⟩, ((Mv.refl w b g).drawn HD.out).trans HM.out (.inl rfl)⟩
    · have HE : Hid (s.narrow = s) := Lib.hid (if_neg (fun k => d k.2))
      have d1 : decide ((s.cnt : Int) ≤ (s.pl.length : Int) / 4) = false := by simp; omega
      go_enter Try.func77, Try.ntmps77
      go_wp2_with fail
      go_quiet (fail)
      have HD : Hid (Drawn w (w.drewN nq)) := Lib.hid ⟨nq, rfl⟩
      go_wp2_with fail
      go_end0
      rw [HE.out]
      exact ⟨rfl, ⟨g, HD.out.ring HH.out, .inl rfl⟩, (Mv.refl w b g).drawn HD.out⟩
  · have HE : Hid (s.narrow = s) := Lib.hid (if_neg (fun k => a k.1))
    have d0 : decide ((0 : Int) < (s.cnt : Int)) = false := by simp; omega
    have d1 : decide (0 < s.cnt) = false := by simp; omega
    go_enter Try.func77, Try.ntmps77
    go_wp2_with fail
    go_quiet (fail)
    have HD : Hid (Drawn w (w.drewN nq)) := Lib.hid ⟨nq, rfl⟩
    go_wp2_with fail
    go_end0
    rw [HE.out]
    exact ⟨rfl, ⟨g, HD.out.ring HH.out, .inl rfl⟩, (Mv.refl w b g).drawn HD.out⟩

/-- The answer (x, ok) of a call. -/
def kgot (x : Nat) (ok : Bool) : Ending := .returned (.tuple #[.pointer (pa (x)), .bool ok])

set_option maxHeartbeats 400000 in
theorem kring_At (b g i : Nat) (s : RS) (w : World) (h : KRingAt w b g s) (ho : s.ok) (hi : i < s.cnt) :
    Calls Try.prog 20 #[.pointer (some ⟨b, 0, none⟩), .int .i64 (i : Int)] w fun e w' => e = kgot (s.get i) true ∧ Drawn w w' := by
  have HH := Lib.hid h
  have HO := Lib.hid ho
  have hp : 0 < s.pl.length := by have := ho.c; omega
  have hpl := RS.pos_lt hp i
  have hc := ho.c
  have hm := ho.m
  have c0 := h.head.drew.cell (i := 0) (v := .slice (some ⟨g, 0, none⟩) s.pl.length s.pl.length) rfl
  have c1 := h.body.drew.cell (i := s.pos i) (v := .pointer (pa (s.get i))) (kcells_at hpl)
  have HP := Lib.hid (kring_place b g i s)
  have HL := Lib.hid (kring_Len b g s w h)
  have i3 : (0 : Int) ≤ ((s.pos i : Nat) : Int) := by omega
  have i4 : ((s.pos i : Nat) : Int) < (s.pl.length : Int) := by omega
  have d0 : decide ((i : Int) < 0) = false := by simp
  have d1 : decide (s.cnt ≤ i) = false := by simp; omega
  clear h ho
  generalize s.get i = x at *
  generalize s.pos i = p at *
  go_enter Try.func20, Try.ntmps20
  go_wp2_with (go_at_call 21; refine (HL.out).mono ?_; rintro e w' ⟨rfl, rfl⟩)
  go_region_held3 (fun w' => w'.cell? ⟨b, 0, none⟩ = some (.slice (some ⟨g, 0, none⟩) s.pl.length s.pl.length) ∧ w'.cell? ⟨g, p, none⟩ = some (.pointer (pa (x))))
    (first | exact ⟨c0, c1⟩ | exact ⟨e0, e1⟩)
    (first | (go_at_call 39; refine (HP.out _ ((Drawn.drew w).ring HH.out) HO.out hp (by omega)).mono ?_; rintro e w' ⟨rfl, hd⟩; have HD := Lib.hid hd; clear hd; have e0 := (HD.out.cell _).trans c0; have e1 := (HD.out.cell _).trans c1))
  go_wp2_with fail
  go_ret2
  exact ⟨rfl, (Drawn.drew w).more HD.out⟩

theorem kring_At_out (b g : Nat) (i : Int) (s : RS) (w : World) (h : KRingAt w b g s) (hi : i < 0 ∨ (s.cnt : Int) ≤ i) :
    Calls Try.prog 20 #[.pointer (some ⟨b, 0, none⟩), .int .i64 i] w fun e w' => e = kgot 0 false ∧ Drawn w w' := by
  have HL := Lib.hid (kring_Len b g s w h)
  clear h
  by_cases c : i < 0
  · have d0 : decide (i < 0) = true := by simpa using c
    go_enter Try.func20, Try.ntmps20
    go_wp2_with (go_at_call 21; refine (HL.out).mono ?_; rintro e w' ⟨rfl, rfl⟩)
    go_ret2
    exact ⟨rfl, Drawn.refl _⟩
  · have d0 : decide (i < 0) = false := by simpa using c
    have hj : (s.cnt : Int) ≤ i := by omega
    have d1 : decide ((s.cnt : Int) ≤ i) = true := by simpa using hj
    clear hi
    go_enter Try.func20, Try.ntmps20
    go_wp2_with (go_at_call 21; refine (HL.out).mono ?_; rintro e w' ⟨rfl, rfl⟩)
    go_ret2
    exact ⟨rfl, Drawn.refl _⟩

end Go.Proofs.Ytfpopbhbhdhdnaa
