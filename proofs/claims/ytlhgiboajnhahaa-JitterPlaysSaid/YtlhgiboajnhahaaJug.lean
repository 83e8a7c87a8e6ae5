/- Contracts of package ring over this translation, for rows of goit/jitter.parcel, a row being a list. -/
import Derived.Test.YtlhgiboajnhahaaJuc
import Derived.Test.YtlhgiboajnhahaaJud
import Derived.Test.YtlhgiboajnhahaaJue
import Derived.Test.YtlhgiboajnhahaaJuf
set_option linter.unusedVariables false
namespace Go.Proofs.Ytlhgiboajnhahaa
open Go.RowKit

/-- A row in memory that has these items. -/
def JpRow (w : World) (b g : Nat) (l : List Jp) : Prop := ∃ q : QS Jp, q.ok ∧ q.items = l ∧ JpAt w b g q

theorem JpRow.keep {w w' : World} {b g : Nat} {l : List Jp} (h : JpRow w b g l) (k : Below w.heap.size w w') : JpRow w' b g l := by obtain ⟨q, h1, h2, h3⟩ := h; exact ⟨q, h1, h2, h3.keep k⟩
theorem JpRow.drawn {w w' : World} {b g : Nat} {l : List Jp} (h : JpRow w b g l) (k : Drawn w w') : JpRow w' b g l := h.keep (k.below _)
theorem JpRow.alloc {w : World} {b g : Nat} {l : List Jp} (h : JpRow w b g l) (o : Obj) : JpRow (w.alloc o) b g l := h.keep ((Below.refl _ _).alloc (Nat.le_refl _) _)
theorem JpRow.fr {w w' : World} {b g : Nat} {l : List Jp} {L : List Nat} (h : JpRow w b g l) (k : Fr w w' L) (h1 : b ∉ L) (h2 : g ∉ L) : JpRow w' b g l := by obtain ⟨q, a, c, d⟩ := h; exact ⟨q, a, c, ⟨d.head.fr k h1, d.body.fr k h2⟩⟩
theorem JpRow.set_other {w : World} {b g c i : Nat} {u : Value} {l : List Jp} (h : JpRow w b g l) (h1 : b ≠ c) (h2 : g ≠ c) : JpRow (w.setCell ⟨c, i, none⟩ u) b g l := by obtain ⟨q, a, d, e⟩ := h; exact ⟨q, a, d, ⟨e.head.set_other i u h1, e.body.set_other i u h2⟩⟩
theorem JpRow.ne {w : World} {b g : Nat} {l : List Jp} (h : JpRow w b g l) : b ≠ g := by obtain ⟨q, _, _, h3⟩ := h; exact h3.ne
theorem JpRow.lt {w : World} {b g : Nat} {l : List Jp} (h : JpRow w b g l) : b < w.heap.size ∧ g < w.heap.size := by obtain ⟨q, _, _, h3⟩ := h; exact ⟨h3.head.lt, h3.body.lt⟩
theorem JpRow.len {w : World} {b g : Nat} {l : List Jp} (h : JpRow w b g l) : l.length ≤ 100000 := by obtain ⟨q, h1, h2, h3⟩ := h; rw [← h2, QS.len_items]; exact Nat.le_trans h1.c h1.m
theorem JpRow.head {w : World} {b g : Nat} {l : List Jp} (h : JpRow w b g l) : ∃ cs, Blk w b 67 cs := by obtain ⟨q, _, _, h3⟩ := h; exact ⟨_, h3.head⟩
theorem JpRow.body {w : World} {b g : Nat} {l : List Jp} (h : JpRow w b g l) : ∃ cs, Blk w g 53 cs := by obtain ⟨q, _, _, h3⟩ := h; exact ⟨_, h3.body⟩

structure JpRPost (w : World) (b g : Nat) (v : Ending) (l : List Jp) (e : Ending) (w' : World) : Prop where
  e : e = v
  at_ : ∃ g', JpRow w' b g' l ∧ (g' = g ∨ w.heap.size ≤ g')
  mv : Fr w w' [b, g]
theorem JpPost.row {w w' : World} {b g : Nat} {v : Ending} {s : QS Jp} {l : List Jp} {e : Ending} (h : JpPost w b g v s e w') (ho : s.ok) (hl : s.items = l) : JpRPost w b g v l e w' := by
  obtain ⟨h1, ⟨g', h2, h3⟩, h4⟩ := h
  exact ⟨h1, ⟨g', ⟨s, ho, hl, h2⟩, h3⟩, Fr.of_mv h4⟩

theorem jp_at (b g i : Nat) (l : List Jp) (w : World) (h : JpRow w b g l) (hi : i < l.length) :
    Calls Try.prog 22 #[.pointer (some ⟨b, 0, none⟩), .int .i64 (i : Int)] w fun e w' => e = jpgot (l.getD i Itm.z) true ∧ Below w.heap.size w w' := by
  obtain ⟨q, h1, rfl, h3⟩ := h
  rw [QS.len_items] at hi
  rw [QS.get_item hi]
  exact jp_At b g i q w h3 h1 hi
theorem jp_at_out (b g : Nat) (i : Int) (l : List Jp) (w : World) (h : JpRow w b g l) (hi : i < 0 ∨ (l.length : Int) ≤ i) :
    Calls Try.prog 22 #[.pointer (some ⟨b, 0, none⟩), .int .i64 i] w fun e w' => e = jpgot Itm.z false ∧ Below w.heap.size w w' := by
  obtain ⟨q, h1, rfl, h3⟩ := h
  rw [QS.len_items] at hi
  exact jp_At_out b g i q w h3 hi
theorem jp_len (b g : Nat) (l : List Jp) (w : World) (h : JpRow w b g l) :
    Calls Try.prog 24 #[.pointer (some ⟨b, 0, none⟩)] w fun e w' => e = .returned (.int .i64 (l.length : Int)) ∧ w = w' := by
  obtain ⟨q, h1, rfl, h3⟩ := h
  rw [QS.len_items]
  exact jp_Len b g q w h3
theorem jp_push (b g : Nat) (x : Jp) (l : List Jp) (w : World) (h : JpRow w b g l) (hl : l.length ≤ 1000) :
    Calls Try.prog 20 #[.pointer (some ⟨b, 0, none⟩), x.agg] w (JpRPost w b g (.returned (.tuple #[])) (l ++ [x])) := by
  obtain ⟨q, h1, rfl, h3⟩ := h
  rw [QS.len_items] at hl
  exact (jp_Push b g x q w h3 h1 hl).mono fun e w' hp => hp.row (QS.push_ok h1 hl x) (QS.push_items h1 x)
theorem jp_shift (b g : Nat) (x : Jp) (l : List Jp) (w : World) (h : JpRow w b g (x :: l)) :
    Calls Try.prog 26 #[.pointer (some ⟨b, 0, none⟩)] w (JpRPost w b g (jpgot x true) l) := by
  obtain ⟨q, h1, h2, h3⟩ := h
  have hc : 0 < q.cnt := by rw [← QS.len_items, h2]; simp
  have e : q.get 0 = x := by rw [← QS.get_item hc, h2]; rfl
  have := (jp_Shift b g q w h3 h1 hc).mono fun e w' hp => hp.row (QS.shift_ok h1 hc) (QS.shift_items h1 hc)
  rw [e, h2] at this
  exact this
theorem jp_shift_none (b g : Nat) (w : World) (h : JpRow w b g []) :
    Calls Try.prog 26 #[.pointer (some ⟨b, 0, none⟩)] w (JpRPost w b g (jpgot Itm.z false) []) := by
  obtain ⟨q, h1, h2, h3⟩ := h
  have hc : q.cnt = 0 := by rw [← QS.len_items, h2]; rfl
  exact (jp_Shift_none b g q w h3 hc).mono fun e w' hp => hp.row h1 h2
structure JpMade (w : World) (l : List Jp) (e : Ending) (w' : World) : Prop where
  at_ : ∃ b g, e = .returned (.pointer (some ⟨b, 0, none⟩)) ∧ JpRow w' b g l ∧ w.heap.size ≤ b ∧ w.heap.size ≤ g
  bel : Below w.heap.size w w'
theorem jp_new (v : Option Addr) (cap : Nat) (l : List Jp) (w : World) (h : Its w v l) (hn : l.length ≤ 100000) :
    Calls Try.prog 17 #[.slice v l.length cap] w (JpMade w l) :=
  (jp_New v cap l w h hn).mono fun e w' hp => by
    obtain ⟨⟨b, g, h1, h2, h3, h4⟩, h5⟩ := hp
    exact ⟨⟨b, g, h1, ⟨_, QS.new_ok hn, QS.new_items l, h2⟩, h3, h4⟩, h5⟩
end Go.Proofs.Ytlhgiboajnhahaa
