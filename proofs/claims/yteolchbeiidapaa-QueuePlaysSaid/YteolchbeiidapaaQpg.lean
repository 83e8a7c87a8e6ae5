/- Contracts of package ring over this translation, for rows of goit/api.Packet, a row being a list. -/
import Derived.Test.YteolchbeiidapaaQpc
import Derived.Test.YteolchbeiidapaaQpd
import Derived.Test.YteolchbeiidapaaQpe
import Derived.Test.YteolchbeiidapaaQpf
set_option linter.unusedVariables false
namespace Go.Proofs.Yteolchbeiidapaa
open Go.RowKit

/-- A row in memory that has these items. -/
def PkRow (w : World) (b g : Nat) (l : List Pk) : Prop := ∃ q : QS Pk, q.ok ∧ q.items = l ∧ PkAt w b g q

theorem PkRow.keep {w w' : World} {b g : Nat} {l : List Pk} (h : PkRow w b g l) (k : Below w.heap.size w w') : PkRow w' b g l := by obtain ⟨q, h1, h2, h3⟩ := h; exact ⟨q, h1, h2, h3.keep k⟩
theorem PkRow.drawn {w w' : World} {b g : Nat} {l : List Pk} (h : PkRow w b g l) (k : Drawn w w') : PkRow w' b g l := h.keep (k.below _)
theorem PkRow.alloc {w : World} {b g : Nat} {l : List Pk} (h : PkRow w b g l) (o : Obj) : PkRow (w.alloc o) b g l := h.keep ((Below.refl _ _).alloc (Nat.le_refl _) _)
theorem PkRow.fr {w w' : World} {b g : Nat} {l : List Pk} {L : List Nat} (h : PkRow w b g l) (k : Fr w w' L) (h1 : b ∉ L) (h2 : g ∉ L) : PkRow w' b g l := by obtain ⟨q, a, c, d⟩ := h; exact ⟨q, a, c, ⟨d.head.fr k h1, d.body.fr k h2⟩⟩
theorem PkRow.set_other {w : World} {b g c i : Nat} {u : Value} {l : List Pk} (h : PkRow w b g l) (h1 : b ≠ c) (h2 : g ≠ c) : PkRow (w.setCell ⟨c, i, none⟩ u) b g l := by obtain ⟨q, a, d, e⟩ := h; exact ⟨q, a, d, ⟨e.head.set_other i u h1, e.body.set_other i u h2⟩⟩
theorem PkRow.ne {w : World} {b g : Nat} {l : List Pk} (h : PkRow w b g l) : b ≠ g := by obtain ⟨q, _, _, h3⟩ := h; exact h3.ne
theorem PkRow.lt {w : World} {b g : Nat} {l : List Pk} (h : PkRow w b g l) : b < w.heap.size ∧ g < w.heap.size := by obtain ⟨q, _, _, h3⟩ := h; exact ⟨h3.head.lt, h3.body.lt⟩
theorem PkRow.len {w : World} {b g : Nat} {l : List Pk} (h : PkRow w b g l) : l.length ≤ 100000 := by obtain ⟨q, h1, h2, h3⟩ := h; rw [← h2, QS.len_items]; exact Nat.le_trans h1.c h1.m
theorem PkRow.head {w : World} {b g : Nat} {l : List Pk} (h : PkRow w b g l) : ∃ cs, Blk w b 57 cs := by obtain ⟨q, _, _, h3⟩ := h; exact ⟨_, h3.head⟩
theorem PkRow.body {w : World} {b g : Nat} {l : List Pk} (h : PkRow w b g l) : ∃ cs, Blk w g 36 cs := by obtain ⟨q, _, _, h3⟩ := h; exact ⟨_, h3.body⟩

structure PkRPost (w : World) (b g : Nat) (v : Ending) (l : List Pk) (e : Ending) (w' : World) : Prop where
  e : e = v
  at_ : ∃ g', PkRow w' b g' l ∧ (g' = g ∨ w.heap.size ≤ g')
  mv : Fr w w' [b, g]
theorem PkPost.row {w w' : World} {b g : Nat} {v : Ending} {s : QS Pk} {l : List Pk} {e : Ending} (h : PkPost w b g v s e w') (ho : s.ok) (hl : s.items = l) : PkRPost w b g v l e w' := by
  obtain ⟨h1, ⟨g', h2, h3⟩, h4⟩ := h
  exact ⟨h1, ⟨g', ⟨s, ho, hl, h2⟩, h3⟩, Fr.of_mv h4⟩

theorem pk_at (b g i : Nat) (l : List Pk) (w : World) (h : PkRow w b g l) (hi : i < l.length) :
    Calls Try.prog 30 #[.pointer (some ⟨b, 0, none⟩), .int .i64 (i : Int)] w fun e w' => e = pkgot (l.getD i Itm.z) true ∧ Below w.heap.size w w' := by
  obtain ⟨q, h1, rfl, h3⟩ := h
  rw [QS.len_items] at hi
  rw [QS.get_item hi]
  exact pk_At b g i q w h3 h1 hi
theorem pk_at_out (b g : Nat) (i : Int) (l : List Pk) (w : World) (h : PkRow w b g l) (hi : i < 0 ∨ (l.length : Int) ≤ i) :
    Calls Try.prog 30 #[.pointer (some ⟨b, 0, none⟩), .int .i64 i] w fun e w' => e = pkgot Itm.z false ∧ Below w.heap.size w w' := by
  obtain ⟨q, h1, rfl, h3⟩ := h
  rw [QS.len_items] at hi
  exact pk_At_out b g i q w h3 hi
theorem pk_len (b g : Nat) (l : List Pk) (w : World) (h : PkRow w b g l) :
    Calls Try.prog 36 #[.pointer (some ⟨b, 0, none⟩)] w fun e w' => e = .returned (.int .i64 (l.length : Int)) ∧ w = w' := by
  obtain ⟨q, h1, rfl, h3⟩ := h
  rw [QS.len_items]
  exact pk_Len b g q w h3
theorem pk_push (b g : Nat) (x : Pk) (l : List Pk) (w : World) (h : PkRow w b g l) (hl : l.length ≤ 1000) :
    Calls Try.prog 28 #[.pointer (some ⟨b, 0, none⟩), x.agg] w (PkRPost w b g (.returned (.tuple #[])) (l ++ [x])) := by
  obtain ⟨q, h1, rfl, h3⟩ := h
  rw [QS.len_items] at hl
  exact (pk_Push b g x q w h3 h1 hl).mono fun e w' hp => hp.row (QS.push_ok h1 hl x) (QS.push_items h1 x)
theorem pk_shift (b g : Nat) (x : Pk) (l : List Pk) (w : World) (h : PkRow w b g (x :: l)) :
    Calls Try.prog 25 #[.pointer (some ⟨b, 0, none⟩)] w (PkRPost w b g (pkgot x true) l) := by
  obtain ⟨q, h1, h2, h3⟩ := h
  have hc : 0 < q.cnt := by rw [← QS.len_items, h2]; simp
  have e : q.get 0 = x := by rw [← QS.get_item hc, h2]; rfl
  have := (pk_Shift b g q w h3 h1 hc).mono fun e w' hp => hp.row (QS.shift_ok h1 hc) (QS.shift_items h1 hc)
  rw [e, h2] at this
  exact this
theorem pk_shift_none (b g : Nat) (w : World) (h : PkRow w b g []) :
    Calls Try.prog 25 #[.pointer (some ⟨b, 0, none⟩)] w (PkRPost w b g (pkgot Itm.z false) []) := by
  obtain ⟨q, h1, h2, h3⟩ := h
  have hc : q.cnt = 0 := by rw [← QS.len_items, h2]; rfl
  exact (pk_Shift_none b g q w h3 hc).mono fun e w' hp => hp.row h1 h2
structure PkMade (w : World) (l : List Pk) (e : Ending) (w' : World) : Prop where
  at_ : ∃ b g, e = .returned (.pointer (some ⟨b, 0, none⟩)) ∧ PkRow w' b g l ∧ w.heap.size ≤ b ∧ w.heap.size ≤ g
  bel : Below w.heap.size w w'
theorem pk_new (v : Option Addr) (cap : Nat) (l : List Pk) (w : World) (h : Its w v l) (hn : l.length ≤ 100000) :
    Calls Try.prog 17 #[.slice v l.length cap] w (PkMade w l) :=
  (pk_New v cap l w h hn).mono fun e w' hp => by
    obtain ⟨⟨b, g, h1, h2, h3, h4⟩, h5⟩ := hp
    exact ⟨⟨b, g, h1, ⟨_, QS.new_ok hn, QS.new_items l, h2⟩, h3, h4⟩, h5⟩
end Go.Proofs.Yteolchbeiidapaa
