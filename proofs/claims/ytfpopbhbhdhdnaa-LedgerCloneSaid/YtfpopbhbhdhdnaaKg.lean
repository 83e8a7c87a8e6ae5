/- Contracts of package ring over this translation, for rows of pointers, a row being a list. -/
import Derived.Test.YtfpopbhbhdhdnaaKx
set_option linter.unusedVariables false
namespace Go.Proofs.Ytfpopbhbhdhdnaa
open Go.RowKit

/-- A row in memory that has these items. -/
def KRow (w : World) (b g : Nat) (l : List Nat) : Prop := ∃ q : RS, q.ok ∧ q.items = l ∧ KRingAt w b g q

theorem KRow.blk2 {w w' : World} {b g : Nat} {l : List Nat} (h : KRow w b g l) (k : ∀ x T cs, (x = b ∨ x = g) → Blk w x T cs → w'.heap[x]? = w.heap[x]?) : KRow w' b g l := by
  obtain ⟨q, h1, h2, h3, h4⟩ := h
  exact ⟨q, h1, h2, by unfold Blk; rw [k b _ _ (.inl rfl) h3]; exact h3, by unfold Blk; rw [k g _ _ (.inr rfl) h4]; exact h4⟩
theorem KRow.keep {w w' : World} {b g : Nat} {l : List Nat} (h : KRow w b g l) (k : Below w.heap.size w w') : KRow w' b g l := h.blk2 fun x T cs _ hb => k.block x hb.lt
theorem KRow.drawn {w w' : World} {b g : Nat} {l : List Nat} (h : KRow w b g l) (k : Drawn w w') : KRow w' b g l := h.keep (k.below _)
theorem KRow.alloc {w : World} {b g : Nat} {l : List Nat} (h : KRow w b g l) (o : Obj) : KRow (w.alloc o) b g l := h.keep ((Below.refl _ _).alloc (Nat.le_refl _) _)
theorem KRow.fr {w w' : World} {b g : Nat} {l : List Nat} {L : List Nat} (h : KRow w b g l) (k : Fr w w' L) (h1 : b ∉ L) (h2 : g ∉ L) : KRow w' b g l := h.blk2 fun x T cs hx hb => k.block x hb.lt (by rcases hx with rfl | rfl <;> assumption)
theorem KRow.set_other {w : World} {b g c i : Nat} {u : Value} {l : List Nat} (h : KRow w b g l) (h1 : b ≠ c) (h2 : g ≠ c) : KRow (w.setCell ⟨c, i, none⟩ u) b g l :=
  h.blk2 fun x T cs hx hb => Below.heap_setCell _ _ _ _ (by show x ≠ c; rcases hx with rfl | rfl <;> assumption)
theorem KRow.ne {w : World} {b g : Nat} {l : List Nat} (h : KRow w b g l) : b ≠ g := by obtain ⟨q, _, _, h3⟩ := h; exact h3.ne
theorem KRow.lt {w : World} {b g : Nat} {l : List Nat} (h : KRow w b g l) : b < w.heap.size ∧ g < w.heap.size := by obtain ⟨q, _, _, h3⟩ := h; exact ⟨h3.head.lt, h3.body.lt⟩
theorem KRow.head {w : World} {b g : Nat} {l : List Nat} (h : KRow w b g l) : ∃ cs, Blk w b 86 cs := by obtain ⟨q, _, _, h3⟩ := h; exact ⟨_, h3.head⟩
theorem KRow.body {w : World} {b g : Nat} {l : List Nat} (h : KRow w b g l) : ∃ cs, Blk w g 59 cs := by obtain ⟨q, _, _, h3⟩ := h; exact ⟨_, h3.body⟩
theorem RS.get_item {s : RS} {i : Nat} (h : i < s.cnt) : s.items.getD i 0 = s.get i := by
  rw [List.getD_eq_getElem?_getD, RS.item_at h]; rfl

theorem RS.new_items (f : List Nat) : (RS.items ⟨f, 0, f.length⟩) = f := by
  apply List.ext_getElem?; intro i
  by_cases c : i < f.length
  · rw [RS.item_at (s := ⟨f, 0, f.length⟩) c]
    simp [RS.get, RS.pos, Nat.mod_eq_of_lt c, List.getD_eq_getElem?_getD, c]
  · rw [List.getElem?_eq_none (by rw [RS.len_items]; show f.length ≤ i; omega), List.getElem?_eq_none (by omega)]
theorem RS.new_ok {f : List Nat} (h : f.length ≤ 100000) : RS.ok ⟨f, 0, f.length⟩ := ⟨Nat.le_refl _, Nat.zero_le _, h⟩

structure KRPost (w : World) (b g : Nat) (v : Ending) (l : List Nat) (e : Ending) (w' : World) : Prop where
  e : e = v
  at_ : ∃ g', KRow w' b g' l ∧ (g' = g ∨ w.heap.size ≤ g')
  mv : Fr w w' [b, g]
theorem KPost.row {w w' : World} {b g : Nat} {v : Ending} {s : RS} {l : List Nat} {e : Ending} (h : KPost w b g v s e w') (ho : s.ok) (hl : s.items = l) : KRPost w b g v l e w' := by
  obtain ⟨h1, ⟨g', h2, h3⟩, h4⟩ := h
  exact ⟨h1, ⟨g', ⟨s, ho, hl, h2⟩, h3⟩, Fr.of_mv h4⟩

theorem k_at (b g i : Nat) (l : List Nat) (w : World) (h : KRow w b g l) (hi : i < l.length) :
    Calls Try.prog 20 #[.pointer (some ⟨b, 0, none⟩), .int .i64 (i : Int)] w fun e w' => e = kgot (l.getD i 0) true ∧ Drawn w w' := by
  obtain ⟨q, h1, rfl, h3⟩ := h
  rw [RS.len_items] at hi
  rw [RS.get_item hi]
  exact kring_At b g i q w h3 h1 hi
theorem k_at_out (b g : Nat) (i : Int) (l : List Nat) (w : World) (h : KRow w b g l) (hi : i < 0 ∨ (l.length : Int) ≤ i) :
    Calls Try.prog 20 #[.pointer (some ⟨b, 0, none⟩), .int .i64 i] w fun e w' => e = kgot 0 false ∧ Drawn w w' := by
  obtain ⟨q, h1, rfl, h3⟩ := h
  rw [RS.len_items] at hi
  exact kring_At_out b g i q w h3 hi
theorem k_len (b g : Nat) (l : List Nat) (w : World) (h : KRow w b g l) :
    Calls Try.prog 21 #[.pointer (some ⟨b, 0, none⟩)] w fun e w' => e = .returned (.int .i64 (l.length : Int)) ∧ w = w' := by
  obtain ⟨q, h1, rfl, h3⟩ := h
  rw [RS.len_items]
  exact kring_Len b g q w h3
theorem k_push (b g : Nat) (x : Nat) (l : List Nat) (w : World) (h : KRow w b g l) (hl : l.length ≤ 1000) :
    Calls Try.prog 22 #[.pointer (some ⟨b, 0, none⟩), pv x] w (KRPost w b g (.returned (.tuple #[])) (l ++ [x])) := by
  obtain ⟨q, h1, rfl, h3⟩ := h
  rw [RS.len_items] at hl
  exact (kring_Push b g x q w h3 h1 hl).mono fun e w' hp => hp.row (RS.push_ok h1 hl x) (RS.push_items h1 x)
theorem k_shift (b g : Nat) (x : Nat) (l : List Nat) (w : World) (h : KRow w b g (x :: l)) :
    Calls Try.prog 54 #[.pointer (some ⟨b, 0, none⟩)] w (KRPost w b g (kgot x true) l) := by
  obtain ⟨q, h1, h2, h3⟩ := h
  have hc : 0 < q.cnt := by rw [← RS.len_items, h2]; simp
  have e : q.get 0 = x := by rw [← RS.get_item hc, h2]; rfl
  have := (kring_Shift b g q w h3 h1 hc).mono fun e w' hp => hp.row (RS.shift_ok h1 hc) (RS.shift_items h1 hc)
  rw [e, h2] at this
  exact this
structure KMade (w : World) (l : List Nat) (e : Ending) (w' : World) : Prop where
  at_ : ∃ b g, e = .returned (.pointer (some ⟨b, 0, none⟩)) ∧ KRow w' b g l ∧ w.heap.size ≤ b ∧ w.heap.size ≤ g
  bel : Below w.heap.size w w'
theorem k_new (v : Option Addr) (cap : Nat) (l : List Nat) (w : World) (h : PNums w v l) (hn : l.length ≤ 100000) :
    Calls Try.prog 19 #[.slice v l.length cap] w (KMade w l) :=
  (kring_New v cap l w h hn).mono fun e w' hp => by
    obtain ⟨⟨b, g, h1, h2, h3, h4⟩, h5⟩ := hp
    exact ⟨⟨b, g, h1, ⟨_, RS.new_ok hn, RS.new_items l, h2⟩, h3, h4⟩, h5⟩
end Go.Proofs.Ytfpopbhbhdhdnaa
