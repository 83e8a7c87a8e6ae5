/- Contracts of package ring over this translation: what its methods answer, and how they leave a row. -/
import Derived.Test.YtfdekmccmdekkaaRb
set_option linter.unusedVariables false
namespace Go.Proofs.Ytfdekmccmdekkaa
open Go.RowKit

/-- The blocks b and g may be written, new ones made; all else is as it was. -/
structure Mv (w w' : World) (b g : Nat) : Prop where
  os : w'.os = w.os
  tape : w'.tape = w.tape
  output : w'.output = w.output
  size : w.heap.size ≤ w'.heap.size
  block : ∀ k, k < w.heap.size → k ≠ b → k ≠ g → w'.heap[k]? = w.heap[k]?

theorem Mv.refl (w : World) (b g : Nat) : Mv w w b g := ⟨rfl, rfl, rfl, Nat.le_refl _, fun _ _ _ _ => rfl⟩
theorem Mv.of_below {w w' : World} (h : Below w.heap.size w w') (b g : Nat) : Mv w w' b g := ⟨h.os, h.tape, h.output, h.size, fun k hk _ _ => h.block k hk⟩
theorem Mv.set {w w' : World} {b g c : Nat} (h : Mv w w' b g) (hc : c = b ∨ c = g ∨ w.heap.size ≤ c) (i : Nat) (u : Value) : Mv w (w'.setCell ⟨c, i, none⟩ u) b g :=
  ⟨h.os, h.tape, h.output, Nat.le_trans h.size (by simp [World.setCell]), fun k hk kb kg => (Below.heap_setCell _ _ _ _ (by show k ≠ c; omega)).trans (h.block k hk kb kg)⟩
theorem Mv.trans {a w w' : World} {b g g' : Nat} (h : Mv a w b g) (k : Mv w w' b g') (hg : g' = g ∨ a.heap.size ≤ g') : Mv a w' b g :=
  ⟨k.os.trans h.os, k.tape.trans h.tape, k.output.trans h.output, Nat.le_trans h.size k.size, fun i hi ib ig => (k.block i (Nat.lt_of_lt_of_le hi h.size) ib (by omega)).trans (h.block i hi ib ig)⟩
theorem Mv.below {a w w' : World} {b g : Nat} (h : Mv a w b g) (k : Below w.heap.size w w') : Mv a w' b g := h.trans (Mv.of_below k b g) (.inl rfl)
theorem Mv.drawn {a w w' : World} {b g : Nat} (h : Mv a w b g) (k : Drawn w w') : Mv a w' b g := h.below (k.below _)
theorem Blk.mv {w w' : World} {b g c : Nat} {T : TypeId} {cs : Array Value} (h : Blk w c T cs) (k : Mv w w' b g) (h1 : c ≠ b) (h2 : c ≠ g) : Blk w' c T cs := by
  unfold Blk; rw [k.block c h.lt h1 h2]; exact h
theorem RingAt.ne {w : World} {b g : Nat} {s : RS} (h : RingAt w b g s) : b ≠ g := by
  rintro rfl
  have := h.head; have k := h.body
  unfold Blk at this k; rw [this] at k; injection k with k; injection k with _ k; exact absurd k (by decide)

/-- What a method leaves: its answer, the row, all other blocks as they were. -/
structure RPost (w : World) (b g : Nat) (v : Ending) (s : RS) (e : Ending) (w' : World) : Prop where
  e : e = v
  at_ : ∃ g', RingAt w' b g' s ∧ (g' = g ∨ w.heap.size ≤ g')
  mv : Mv w w' b g

set_option maxHeartbeats 400000 in
theorem ring_move (b g n : Nat) (s : RS) (w : World) (h : RingAt w b g s) (ho : s.ok) (hn : s.cnt ≤ n) (hm : n ≤ 100000) :
    Calls Try.prog 21 #[.pointer (some ⟨b, 0, none⟩), .int .i64 (n : Int)] w (RPost w b g (.returned (.tuple #[])) (s.move n)) := by
  have HH := Lib.hid h
  have HN := Lib.hid h.ne
  have HL := Lib.hid (ring_lay b g n s w h ho hn hm)
  have HE := Lib.hid (RS.len_lay hn)
  have hbl := h.head.lt
  clear h ho
  go_enter Try.func21, Try.ntmps21
  go_wp2_with fail
  refine (HL.out).mono ?_
  rintro e w1 ⟨rfl, hb, hbel⟩
  have HB := Lib.hid hb
  have HW := Lib.hid hbel
  have H1 := Lib.hid (HH.out.head.keep hbel)
  have c0 := H1.out.cell (i := 0) (v := .slice (some ⟨g, 0, none⟩) s.pl.length s.pl.length) rfl
  have c1 := H1.out.cell (i := 1) (v := .int .i64 (s.first : Int)) rfl
  have f0 := H1.out.free 0
  have f1 := H1.out.free 1
  clear hb hbel
  rw [HE.out]
  go_wp2_with fail
  go_end0
  refine ⟨rfl, ⟨w.heap.size, ⟨?_, ?_⟩, .inr (Nat.le_refl _)⟩, ((Mv.of_below HW.out b g).set (.inl rfl) _ _).set (.inl rfl) _ _⟩
  · have := (H1.out.set 0 (.slice (some ⟨w.heap.size, 0, none⟩) n n)).set 1 (.int .i64 0)
    simpa [RS.cells, RS.move, HE.out] using this
  · exact (HB.out.set_other _ _ (by omega)).set_other _ _ (by omega)

structure EPost (w : World) (b g : Nat) (s : RS) (e : Ending) (w' : World) : Prop where
  e : e = .returned (.tuple #[])
  at_ : RingAt w' b g s
  mv : Mv w w' b g

set_option maxHeartbeats 400000 in
theorem ring_empty (b g i : Nat) (s : RS) (w : World) (h : RingAt w b g s) (ho : s.ok) (hp : 0 < s.pl.length) (hi : i ≤ 100000) :
    Calls Try.prog 23 #[.pointer (some ⟨b, 0, none⟩), .int .i64 (i : Int)] w (EPost w b g (s.put i 0)) := by
  have HH := Lib.hid h
  have HO := Lib.hid ho
  have HN := Lib.hid h.ne
  have hpl := RS.pos_lt hp i
  have c0 := h.head.drew.cell (i := 0) (v := .slice (some ⟨g, 0, none⟩) s.pl.length s.pl.length) rfl
  have c2 := h.body.drew.cell (i := s.pos i) (pcells_at hpl)
  have c3 := h.body.drew.free (s.pos i)
  have HP := Lib.hid (ring_place b g i s)
  have i3 : (0 : Int) ≤ ((s.pos i : Nat) : Int) := by omega
  have i4 : ((s.pos i : Nat) : Int) < (s.pl.length : Int) := by omega
  have HS : Hid ((s.put i 0).pl = s.pl.set (s.pos i) 0) := Lib.hid rfl
  clear h ho
  generalize s.pl.getD (s.pos i) 0 = y at *
  generalize s.pos i = p at *
  go_enter Try.func23, Try.ntmps23
  go_wp2_with fail
  go_region_held3 (fun w' => w'.cell? ⟨b, 0, none⟩ = some (.slice (some ⟨g, 0, none⟩) s.pl.length s.pl.length))
    (first | exact c0 | exact e0 | exact (two_far e0 e0 HN.out HN.out).1)
    (first | (go_at_call 22; refine (HP.out _ ((Drawn.drew w).ring HH.out) HO.out hp (by omega)).mono ?_; rintro e w' ⟨rfl, hd⟩; have HD := Lib.hid hd; clear hd; have e0 := (HD.out.cell _).trans c0; have e2 := (HD.out.cell _).trans c2; have e3 := (HD.out.frozen _).trans c3))
  go_end0
  have hD : Drawn w w' := (Drawn.drew w).more HD.out
  refine ⟨rfl, ⟨?_, ?_⟩, ((Mv.refl w b g).drawn hD).set (.inr (.inl rfl)) _ _⟩
  · have := (hD.blk HH.out.head).set_other p (.int .u64 0) (c := g) HN.out
    simpa [RS.cells, RS.put] using this
  · have := (hD.blk HH.out.body).set p (.int .u64 ((0 : Nat) : Int))
    rw [pcells_set, ← HS.out] at this
    exact this

set_option maxHeartbeats 400000 in
theorem ring_Len (b g : Nat) (s : RS) (w : World) (h : RingAt w b g s) :
    Calls Try.prog 10 #[.pointer (some ⟨b, 0, none⟩)] w fun e w' => e = .returned (.int .i64 (s.cnt : Int)) ∧ w = w' := by
  have c2 := h.head.cell (i := 2) (v := .int .i64 (s.cnt : Int)) rfl
  clear h
  go_enter Try.func10, Try.ntmps10
  go_wp2
  go_ret
  exact ⟨rfl, rfl⟩

theorem ring_Len_nil (w : World) :
    Calls Try.prog 10 #[.pointer none] w fun e w' => e = .returned (.int .i64 0) ∧ w = w' := by
  go_enter Try.func10, Try.ntmps10
  go_wp2
  go_ret
  exact ⟨rfl, rfl⟩
end Go.Proofs.Ytfdekmccmdekkaa
