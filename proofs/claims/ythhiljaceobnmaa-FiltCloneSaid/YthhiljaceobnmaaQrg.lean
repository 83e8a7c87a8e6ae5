/- Contracts of package ring over this translation, for rows of goit/filt.reading, a row being a list. -/
import Derived.Test.YthhiljaceobnmaaQrc
import Derived.Test.YthhiljaceobnmaaQrd
import Derived.Test.YthhiljaceobnmaaQre
import Derived.Test.YthhiljaceobnmaaQrf
set_option linter.unusedVariables false
namespace Go.Proofs.Ythhiljaceobnmaa
open Go.RowKit

/-- A row in memory that has these items. -/
def RdRow (w : World) (b g : Nat) (l : List Rd) : Prop := ∃ q : QS Rd, q.ok ∧ q.items = l ∧ RdAt w b g q

theorem RdRow.keep {w w' : World} {b g : Nat} {l : List Rd} (h : RdRow w b g l) (k : Below w.heap.size w w') : RdRow w' b g l := by obtain ⟨q, h1, h2, h3⟩ := h; exact ⟨q, h1, h2, h3.keep k⟩
theorem RdRow.drawn {w w' : World} {b g : Nat} {l : List Rd} (h : RdRow w b g l) (k : Drawn w w') : RdRow w' b g l := h.keep (k.below _)
theorem RdRow.alloc {w : World} {b g : Nat} {l : List Rd} (h : RdRow w b g l) (o : Obj) : RdRow (w.alloc o) b g l := h.keep ((Below.refl _ _).alloc (Nat.le_refl _) _)
theorem RdRow.fr {w w' : World} {b g : Nat} {l : List Rd} {L : List Nat} (h : RdRow w b g l) (k : Fr w w' L) (h1 : b ∉ L) (h2 : g ∉ L) : RdRow w' b g l := by obtain ⟨q, a, c, d⟩ := h; exact ⟨q, a, c, ⟨d.head.fr k h1, d.body.fr k h2⟩⟩
theorem RdRow.set_other {w : World} {b g c i : Nat} {u : Value} {l : List Rd} (h : RdRow w b g l) (h1 : b ≠ c) (h2 : g ≠ c) : RdRow (w.setCell ⟨c, i, none⟩ u) b g l := by obtain ⟨q, a, d, e⟩ := h; exact ⟨q, a, d, ⟨e.head.set_other i u h1, e.body.set_other i u h2⟩⟩
theorem RdRow.ne {w : World} {b g : Nat} {l : List Rd} (h : RdRow w b g l) : b ≠ g := by obtain ⟨q, _, _, h3⟩ := h; exact h3.ne
theorem RdRow.lt {w : World} {b g : Nat} {l : List Rd} (h : RdRow w b g l) : b < w.heap.size ∧ g < w.heap.size := by obtain ⟨q, _, _, h3⟩ := h; exact ⟨h3.head.lt, h3.body.lt⟩
theorem RdRow.len {w : World} {b g : Nat} {l : List Rd} (h : RdRow w b g l) : l.length ≤ 100000 := by obtain ⟨q, h1, h2, h3⟩ := h; rw [← h2, QS.len_items]; exact Nat.le_trans h1.c h1.m
theorem RdRow.head {w : World} {b g : Nat} {l : List Rd} (h : RdRow w b g l) : ∃ cs, Blk w b 63 cs := by obtain ⟨q, _, _, h3⟩ := h; exact ⟨_, h3.head⟩
theorem RdRow.body {w : World} {b g : Nat} {l : List Rd} (h : RdRow w b g l) : ∃ cs, Blk w g 52 cs := by obtain ⟨q, _, _, h3⟩ := h; exact ⟨_, h3.body⟩

structure RdRPost (w : World) (b g : Nat) (v : Ending) (l : List Rd) (e : Ending) (w' : World) : Prop where
  e : e = v
  at_ : ∃ g', RdRow w' b g' l ∧ (g' = g ∨ w.heap.size ≤ g')
  mv : Fr w w' [b, g]
theorem RdPost.row {w w' : World} {b g : Nat} {v : Ending} {s : QS Rd} {l : List Rd} {e : Ending} (h : RdPost w b g v s e w') (ho : s.ok) (hl : s.items = l) : RdRPost w b g v l e w' := by
  obtain ⟨h1, ⟨g', h2, h3⟩, h4⟩ := h
  exact ⟨h1, ⟨g', ⟨s, ho, hl, h2⟩, h3⟩, Fr.of_mv h4⟩

theorem rd_at (b g i : Nat) (l : List Rd) (w : World) (h : RdRow w b g l) (hi : i < l.length) :
    Calls Try.prog 18 #[.pointer (some ⟨b, 0, none⟩), .int .i64 (i : Int)] w fun e w' => e = rdgot (l.getD i Itm.z) true ∧ Below w.heap.size w w' := by
  obtain ⟨q, h1, rfl, h3⟩ := h
  rw [QS.len_items] at hi
  rw [QS.get_item hi]
  exact rd_At b g i q w h3 h1 hi
theorem rd_at_out (b g : Nat) (i : Int) (l : List Rd) (w : World) (h : RdRow w b g l) (hi : i < 0 ∨ (l.length : Int) ≤ i) :
    Calls Try.prog 18 #[.pointer (some ⟨b, 0, none⟩), .int .i64 i] w fun e w' => e = rdgot Itm.z false ∧ Below w.heap.size w w' := by
  obtain ⟨q, h1, rfl, h3⟩ := h
  rw [QS.len_items] at hi
  exact rd_At_out b g i q w h3 hi
theorem rd_len (b g : Nat) (l : List Rd) (w : World) (h : RdRow w b g l) :
    Calls Try.prog 30 #[.pointer (some ⟨b, 0, none⟩)] w fun e w' => e = .returned (.int .i64 (l.length : Int)) ∧ w = w' := by
  obtain ⟨q, h1, rfl, h3⟩ := h
  rw [QS.len_items]
  exact rd_Len b g q w h3
theorem rd_push (b g : Nat) (x : Rd) (l : List Rd) (w : World) (h : RdRow w b g l) (hl : l.length ≤ 1000) :
    Calls Try.prog 29 #[.pointer (some ⟨b, 0, none⟩), x.agg] w (RdRPost w b g (.returned (.tuple #[])) (l ++ [x])) := by
  obtain ⟨q, h1, rfl, h3⟩ := h
  rw [QS.len_items] at hl
  exact (rd_Push b g x q w h3 h1 hl).mono fun e w' hp => hp.row (QS.push_ok h1 hl x) (QS.push_items h1 x)
theorem rd_shift (b g : Nat) (x : Rd) (l : List Rd) (w : World) (h : RdRow w b g (x :: l)) :
    Calls Try.prog 25 #[.pointer (some ⟨b, 0, none⟩)] w (RdRPost w b g (rdgot x true) l) := by
  obtain ⟨q, h1, h2, h3⟩ := h
  have hc : 0 < q.cnt := by rw [← QS.len_items, h2]; simp
  have e : q.get 0 = x := by rw [← QS.get_item hc, h2]; rfl
  have := (rd_Shift b g q w h3 h1 hc).mono fun e w' hp => hp.row (QS.shift_ok h1 hc) (QS.shift_items h1 hc)
  rw [e, h2] at this
  exact this
theorem rd_shift_none (b g : Nat) (w : World) (h : RdRow w b g []) :
    Calls Try.prog 25 #[.pointer (some ⟨b, 0, none⟩)] w (RdRPost w b g (rdgot Itm.z false) []) := by
  obtain ⟨q, h1, h2, h3⟩ := h
  have hc : q.cnt = 0 := by rw [← QS.len_items, h2]; rfl
  exact (rd_Shift_none b g q w h3 hc).mono fun e w' hp => hp.row h1 h2
theorem rd_pop (b g : Nat) (x : Rd) (l : List Rd) (w : World) (h : RdRow w b g (l ++ [x])) :
    Calls Try.prog 28 #[.pointer (some ⟨b, 0, none⟩)] w (RdRPost w b g (rdgot x true) l) := by
  obtain ⟨q, h1, h2, h3⟩ := h
  have hn : q.cnt = l.length + 1 := by rw [← QS.len_items, h2]; simp
  have hc : 0 < q.cnt := by omega
  have e : q.get (q.cnt - 1) = x := by rw [← QS.get_item (by omega), h2, hn]; simp [List.getD_eq_getElem?_getD]
  have := (rd_Pop b g q w h3 h1 hc).mono fun e w' hp => hp.row (QS.pop_ok h1 hc) (QS.pop_items h1 hc)
  rw [e, h2, hn] at this
  simpa using this
theorem rd_pop_none (b g : Nat) (w : World) (h : RdRow w b g []) :
    Calls Try.prog 28 #[.pointer (some ⟨b, 0, none⟩)] w (RdRPost w b g (rdgot Itm.z false) []) := by
  obtain ⟨q, h1, h2, h3⟩ := h
  have hc : q.cnt = 0 := by rw [← QS.len_items, h2]; rfl
  exact (rd_Pop_none b g q w h3 hc).mono fun e w' hp => hp.row h1 h2
structure RdMade (w : World) (l : List Rd) (e : Ending) (w' : World) : Prop where
  at_ : ∃ b g, e = .returned (.pointer (some ⟨b, 0, none⟩)) ∧ RdRow w' b g l ∧ w.heap.size ≤ b ∧ w.heap.size ≤ g
  bel : Below w.heap.size w w'
theorem rd_new (v : Option Addr) (cap : Nat) (l : List Rd) (w : World) (h : Its w v l) (hn : l.length ≤ 100000) :
    Calls Try.prog 23 #[.slice v l.length cap] w (RdMade w l) :=
  (rd_New v cap l w h hn).mono fun e w' hp => by
    obtain ⟨⟨b, g, h1, h2, h3, h4⟩, h5⟩ := hp
    exact ⟨⟨b, g, h1, ⟨_, QS.new_ok hn, QS.new_items l, h2⟩, h3, h4⟩, h5⟩
theorem rd_clone (b g : Nat) (l : List Rd) (w : World) (h : RdRow w b g l) :
    Calls Try.prog 21 #[.pointer (some ⟨b, 0, none⟩)] w (RdMade w l) := by
  obtain ⟨q, h1, rfl, h3⟩ := h
  exact (rd_Clone b g q w h3 h1).mono fun e w' hp => by
    obtain ⟨⟨b, g, a1, a2, a3, a4⟩, a5⟩ := hp
    exact ⟨⟨b, g, a1, ⟨q, h1, rfl, a2⟩, a3, a4⟩, a5⟩
end Go.Proofs.Ythhiljaceobnmaa
