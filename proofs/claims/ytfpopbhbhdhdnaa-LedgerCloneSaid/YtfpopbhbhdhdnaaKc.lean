/- Contracts of package ring over this translation: what its methods answer, and how they leave a row. -/
import Derived.Test.YtfpopbhbhdhdnaaKb
set_option linter.unusedVariables false
namespace Go.Proofs.Ytfpopbhbhdhdnaa
open Go.RowKit

theorem KRingAt.ne {w : World} {b g : Nat} {s : RS} (h : KRingAt w b g s) : b ≠ g := by
  rintro rfl
  have := h.head; have k := h.body
  unfold Blk at this k; rw [this] at k; injection k with k; injection k with _ k; exact absurd k (by decide)

/-- What a method leaves: its answer, the row, all other blocks as they were. -/
structure KPost (w : World) (b g : Nat) (v : Ending) (s : RS) (e : Ending) (w' : World) : Prop where
  e : e = v
  at_ : ∃ g', KRingAt w' b g' s ∧ (g' = g ∨ w.heap.size ≤ g')
  mv : Mv w w' b g

set_option maxHeartbeats 400000 in
theorem kring_move (b g n : Nat) (s : RS) (w : World) (h : KRingAt w b g s) (ho : s.ok) (hn : s.cnt ≤ n) (hm : n ≤ 100000) :
    Calls Try.prog 40 #[.pointer (some ⟨b, 0, none⟩), .int .i64 (n : Int)] w (KPost w b g (.returned (.tuple #[])) (s.move n)) := by
  have HH := Lib.hid h
  have HN := Lib.hid h.ne
  have HL := Lib.hid (kring_lay b g n s w h ho hn hm)
  have HE := Lib.hid (RS.len_lay hn)
  have hbl := h.head.lt
  clear h ho
  go_enter Try.func40, Try.ntmps40
  go_wp2_with fail
  refine (HL.out).mono ?_
  rintro e w1 ⟨rfl, hb, hbel⟩
  have HB := Lib.hid hb
  have HW := Lib.hid hbel
  have H1 := Lib.hid (HH.out.head.keep hbel)
  have c0 := H1.out.cell (i := 0) (v := .slice (some ⟨g, 0, none⟩) s.pl.length s.pl.length) rfl
  have c1 := H1.out.cell (i := 1) (v := .int .i64 (s.first : Int)) rfl
  have f0 := H1.out.free 0
  have f1 := H1.out.free 1
  clear hb hbel
  rw [HE.out]
  go_wp2_with fail
  go_end0
  refine ⟨rfl, ⟨w.heap.size, ⟨?_, ?_⟩, .inr (Nat.le_refl _)⟩, ((Mv.of_below HW.out b g).set (.inl rfl) _ _).set (.inl rfl) _ _⟩
  · have := (H1.out.set 0 (.slice (some ⟨w.heap.size, 0, none⟩) n n)).set 1 (.int .i64 0)
    simpa [RS.cells, RS.move, HE.out] using this
  · exact (HB.out.set_other _ _ (by omega)).set_other _ _ (by omega)

structure KEPost (w : World) (b g : Nat) (s : RS) (e : Ending) (w' : World) : Prop where
  e : e = .returned (.tuple #[])
  at_ : KRingAt w' b g s
  mv : Mv w w' b g

set_option maxHeartbeats 400000 in
theorem kring_empty (b g i : Nat) (s : RS) (w : World) (h : KRingAt w b g s) (ho : s.ok) (hp : 0 < s.pl.length) (hi : i ≤ 100000) :
    Calls Try.prog 76 #[.pointer (some ⟨b, 0, none⟩), .int .i64 (i : Int)] w (KEPost w b g (s.put i 0)) := by
  have HH := Lib.hid h
  have HO := Lib.hid ho
  have HN := Lib.hid h.ne
  have hpl := RS.pos_lt hp i
  have c0 := h.head.drew.cell (i := 0) (v := .slice (some ⟨g, 0, none⟩) s.pl.length s.pl.length) rfl
  have c2 := h.body.drew.cell (i := s.pos i) (kcells_at hpl)
  have c3 := h.body.drew.free (s.pos i)
  have HP := Lib.hid (kring_place b g i s)
  have i3 : (0 : Int) ≤ ((s.pos i : Nat) : Int) := by omega
  have i4 : ((s.pos i : Nat) : Int) < (s.pl.length : Int) := by omega
  have HS : Hid ((s.put i 0).pl = s.pl.set (s.pos i) 0) := Lib.hid rfl
  clear h ho
  generalize s.pl.getD (s.pos i) 0 = y at *
  generalize s.pos i = p at *
  go_enter Try.func76, Try.ntmps76
  go_wp2_with fail
  go_region_held3 (fun w' => w'.cell? ⟨b, 0, none⟩ = some (.slice (some ⟨g, 0, none⟩) s.pl.length s.pl.length))
    (first | exact c0 | exact e0 | exact (two_far e0 e0 HN.out HN.out).1)
    (first | (go_at_call 39; refine (HP.out _ ((Drawn.drew w).ring HH.out) HO.out hp (by omega)).mono ?_; rintro e w' ⟨rfl, hd⟩; have HD := Lib.hid hd; clear hd; have e0 := (HD.out.cell _).trans c0; have e2 := (HD.out.cell _).trans c2; have e3 := (HD.out.frozen _).trans c3))
  go_end0
  have hD : Drawn w w' := (Drawn.drew w).more HD.out
  refine ⟨rfl, ⟨?_, ?_⟩, ((Mv.refl w b g).drawn hD).set (.inr (.inl rfl)) _ _⟩
  · have := (hD.blk HH.out.head).set_other p (.pointer none) (c := g) HN.out
    simpa [RS.cells, RS.put] using this
  · have := (hD.blk HH.out.body).set p (.pointer (pa (0)))
    rw [kcells_set, ← HS.out] at this
    exact this

set_option maxHeartbeats 400000 in
theorem kring_Len (b g : Nat) (s : RS) (w : World) (h : KRingAt w b g s) :
    Calls Try.prog 21 #[.pointer (some ⟨b, 0, none⟩)] w fun e w' => e = .returned (.int .i64 (s.cnt : Int)) ∧ w = w' := by
  have c2 := h.head.cell (i := 2) (v := .int .i64 (s.cnt : Int)) rfl
  clear h
  go_enter Try.func21, Try.ntmps21
  go_wp2
  go_ret
  exact ⟨rfl, rfl⟩

theorem kring_Len_nil (w : World) :
    Calls Try.prog 21 #[.pointer none] w fun e w' => e = .returned (.int .i64 0) ∧ w = w' := by
  go_enter Try.func21, Try.ntmps21
  go_wp2
  go_ret
  exact ⟨rfl, rfl⟩
end Go.Proofs.Ytfpopbhbhdhdnaa
