/- QueuePlays over this translation: the queue answers as the document's queue does, act by act. -/
import Derived.Test.YteolchbeiidapaaLaw19a
import Derived.Test.YteolchbeiidapaaRefS
import Derived.Test.YteolchbeiidapaaIn19
import Derived.Deep.DeepCutAuto
import Derived.Deep.LoopGhost
set_option linter.unusedVariables false
namespace Go.Proofs.Yteolchbeiidapaa
open Go.RowKit

def tot (l : List Pk) : Nat := (l.map (·.size)).sum
theorem sumQ_go : ∀ (l : List Pk) (a : Nat), a ≤ 18446744073709551615 → l.foldl (fun a p => Pl.addS a p.size) a = min (a + tot l) 18446744073709551615
  | [], a, h => by simp [tot]; omega
  | p :: t, a, h => by
    rw [List.foldl_cons, sumQ_go t _ (Pl.addS_le _ _)]
    unfold Pl.addS tot
    simp
    omega
theorem sumQ_tot (l : List Pk) : sumQ l = min (tot l) 18446744073709551615 := by
  unfold sumQ; rw [sumQ_go l 0 (Nat.zero_le _), Nat.zero_add]
/-- What a queue keeps: its bytes are its packets', and no more than its room. -/
structure Inv19 (s : QK) : Prop where
  ok : s.ok
  n : s.n = tot s.l
  le : s.n ≤ s.room
theorem Inv19.sum {s : QK} (h : Inv19 s) : sumQ s.l = s.n := by
  have := h.ok.n
  rw [sumQ_tot, ← h.n]; omega
theorem Inv19.start {r : Nat} (h : r ≤ 18446744073709551615) : Inv19 (QK.start r) := ⟨QK.start_ok h, rfl, Nat.zero_le _⟩
theorem Inv19.put {s : QK} (h : Inv19 s) {p : Pk} (hp : p.size ≤ 18446744073709551615) : Inv19 (s.putQ p) := by
  refine ⟨QK.put_ok h.ok hp, ?_, ?_⟩
  · have := h.ok.room
    have hn := h.n
    have hl := h.le
    unfold QK.putQ
    split
    · next c =>
      unfold QK.addQ Pl.addS
      unfold Pl.subS at c
      show min (s.n + p.size) 18446744073709551615 = tot (s.l ++ [p])
      have e : tot (s.l ++ [p]) = tot s.l + p.size := by simp [tot]
      rw [e]; omega
    · exact hn
  · have := h.ok.room
    have hl := h.le
    unfold QK.putQ
    split
    · next c => unfold QK.addQ Pl.addS; unfold Pl.subS at c; dsimp; omega
    · exact hl
theorem Inv19.shift {s : QK} (h : Inv19 s) : Inv19 s.shiftQ := by
  refine ⟨QK.shift_ok h.ok, ?_, Nat.le_trans (Pl.subS_le _ _) h.le⟩
  have hn := h.n
  unfold QK.shiftQ QK.headQ
  show Pl.subS s.n (s.l.getD 0 Itm.z).size = tot (s.l.drop 1)
  cases e : s.l with
  | nil => rw [e] at hn; unfold Pl.subS; rw [hn]; rfl
  | cons x t =>
    rw [e] at hn
    unfold Pl.subS
    show s.n - x.size = tot t
    rw [hn]; simp [tot]

theorem ROwn.at_ {B m : Nat} {w : World} {v : Value} {l : List Pk} (h : ROwn B w v l) : vb v m = m ∨ ∃ cur, Blk w (vb v m) 36 cur := by
  obtain ⟨hl, h⟩ := h
  rcases h with ⟨rfl, hn⟩ | ⟨g, cap, cur, rfl, hb, hg, hr⟩
  · exact .inl rfl
  · exact .inr ⟨cur, hg⟩

/-- The code's queue and the document's, a packet's box beside them. -/
structure Two19 (W : World) (b m z : Nat) (cs : Array Value) (s1 s2 : QK) (w : World) : Prop where
  q : ∃ rb g v ds, QAt w b rb g s1 ∧ W.heap.size ≤ rb ∧ W.heap.size ≤ g ∧ Blk w m 30 ds ∧ RCells ds 0 s2 v ∧ ROwn W.heap.size w v s2.l ∧ g ≠ vb v m ∧ g ≠ z ∧ vb v m ≠ z
  box : Blk w z 36 cs
  lo : W.heap.size ≤ b ∧ W.heap.size ≤ m
  bel : Below W.heap.size W w
theorem Two19.to {W w w' : World} {b m z : Nat} {s1 s2 : QK} {cs : Array Value} (h : Two19 W b m z cs s1 s2 w) (k : Below w.heap.size w w') : Two19 W b m z cs s1 s2 w' := by
  obtain ⟨rb, g, v, ds, h1, h2, h3, h4, h5, h6, h7⟩ := h.q
  exact ⟨⟨rb, g, v, ds, h1.keep k, h2, h3, h4.keep k, h5, h6.keep k, h7⟩, h.box.keep k, h.lo, bel_to h.bel k h.bel.size⟩
/-- Another box. -/
theorem Two19.al {W w : World} {b m z : Nat} {s1 s2 : QK} {cs : Array Value} (h : Two19 W b m z cs s1 s2 w) (ds : Array Value) : Two19 W b m w.heap.size ds s1 s2 (w.alloc (.cells ds 36)) := by
  have k := al_be w (.cells ds 36)
  obtain ⟨rb, g, v, es, h1, h2, h3, h4, h5, h6, h7, _⟩ := h.q
  exact ⟨⟨rb, g, v, es, h1.keep k, h2, h3, h4.keep k, h5, h6.keep k, h7, by have := h1.lt; omega, Nat.ne_of_lt (h6.lt h4.lt)⟩, Blk.new _ _ _, h.lo, bel_to h.bel k h.bel.size⟩
theorem Two19.pp {W w w' : World} {b m z rb g : Nat} {s1 s2 s' : QK} {cs ds : Array Value} {v r : Value} {e : Ending} (h : Two19 W b m z cs s1 s2 w) (h1 : QAt w b rb g s1) (h2 : W.heap.size ≤ rb) (h3 : W.heap.size ≤ g) (h4 : Blk w m 30 ds) (h5 : RCells ds 0 s2 v) (h6 : ROwn W.heap.size w v s2.l) (h7 : g ≠ vb v m) (h8 : g ≠ z) (h9 : vb v m ≠ z) (k : QPost w b rb g r s' e w') : Two19 W b m z cs s' s2 w' := by
  obtain ⟨g', k1, k2⟩ := k.at_
  have lo := h.lo
  have sz := h.bel.size
  obtain ⟨cs1, r1⟩ := h1.row.head
  have lz := h.box.lt
  have lv := h6.lt (m := m) h4.lt
  have mn : m ≠ b ∧ m ≠ rb ∧ m ≠ g := ⟨h4.ty h1.head (by decide), h4.ty r1 (by decide), by obtain ⟨c2, r2⟩ := h1.row.body; exact h4.ty r2 (by decide)⟩
  have zn : z ≠ b ∧ z ≠ rb := ⟨h.box.ty h1.head (by decide), h.box.ty r1 (by decide)⟩
  have vn : vb v m ≠ b ∧ vb v m ≠ rb := by
    rcases h6.at_ (m := m) with e | ⟨cur, e⟩
    · rw [e]; exact ⟨mn.1, mn.2.1⟩
    · exact ⟨e.ty h1.head (by decide), e.ty r1 (by decide)⟩
  exact ⟨⟨rb, g', v, ds, k1, h2, by omega, h4.fr k.fr (by simp; omega), h5, h6.fr (m := m) k.fr (by simp; omega), by omega, by omega, h9⟩, h.box.fr k.fr (by simp; omega), lo, bel_fr h.bel k.fr sz (fun x hx => by simp at hx; omega)⟩
theorem Two19.mm {W w w' : World} {b m z rb g : Nat} {s1 s2 s' : QK} {cs ds : Array Value} {v r : Value} {e : Ending} (h : Two19 W b m z cs s1 s2 w) (h1 : QAt w b rb g s1) (h2 : W.heap.size ≤ rb) (h3 : W.heap.size ≤ g) (h4 : Blk w m 30 ds) (h6 : ROwn W.heap.size w v s2.l) (h7 : g ≠ vb v m) (h8 : g ≠ z) (h9 : vb v m ≠ z) (k : RQPost w m 0 W.heap.size 30 ds v r s' e w') : Two19 W b m z cs s1 s' w' := by
  obtain ⟨v', ds', k1, k2, k3, k4, k5, k6⟩ := k.at_
  have lo := h.lo
  have sz := h.bel.size
  have lt := h1.lt
  have lz := h.box.lt
  have lv := h6.lt (m := m) h4.lt
  obtain ⟨cs1, r1⟩ := h1.row.head
  have hb := h6.base (m := m) lo.2
  have mn : m ≠ b ∧ m ≠ rb ∧ m ≠ g := ⟨h4.ty h1.head (by decide), h4.ty r1 (by decide), by obtain ⟨c2, r2⟩ := h1.row.body; exact h4.ty r2 (by decide)⟩
  have zn : z ≠ m := h.box.ty h4 (by decide)
  have vn : vb v m ≠ b ∧ vb v m ≠ rb := by
    rcases h6.at_ (m := m) with e | ⟨cur, e⟩
    · rw [e]; exact ⟨mn.1, mn.2.1⟩
    · exact ⟨e.ty h1.head (by decide), e.ty r1 (by decide)⟩
  exact ⟨⟨rb, g, v', ds', h1.fr k.fr (by simp; omega) (by simp; omega) (by simp; omega), h2, h3, k1, k2, k5, by omega, h8, by omega⟩, h.box.fr k.fr (by simp; omega), lo, bel_fr h.bel k.fr sz (fun x hx => by simp at hx; omega)⟩

/-- What stays while both are changed: the box. -/
def TwX (W : World) (b m z : Nat) (cs : Array Value) (w : World) : Prop := ∃ s1 s2, Two19 W b m z cs s1 s2 w
theorem twx {W w : World} {b m z : Nat} {s1 s2 : QK} {cs : Array Value} (h : Two19 W b m z cs s1 s2 w) : Hid (TwX W b m z cs w) := Lib.hid ⟨s1, s2, h⟩
theorem twx_box {W : World} {b m z i : Nat} {cs : Array Value} {u : Value} (hv : cs[i]? = some u) : ∀ w, Hid (TwX W b m z cs w) → w.cell? ⟨z, i, none⟩ = some u := fun w h => by
  obtain ⟨s1, s2, h1⟩ := h.out
  exact h1.box.cell hv

theorem tw_Put (W : World) (b m z : Nat) (cs : Array Value) (s : QK) (p : Pk) (ho : Inv19 s) (hp : p.size ≤ 18446744073709551615) (hk : s.l.length ≤ 1000) (s2 : QK) (w : World) (h : Two19 W b m z cs s s2 w) :
    Calls Try.prog 9 #[.pointer (some ⟨b, 0, none⟩), p.agg] w fun e w' => e = .returned (.bool (s.putB p)) ∧ Hid (Two19 W b m z cs (s.putQ p) s2 w') ∧ Hid (TwX W b m z cs w') := by
  obtain ⟨rb, g, v, ds, h1, h2, h3, h4, h5, h6, h7, h8, h9⟩ := h.q
  exact (wq_Put b rb g p s w h1 ho.ok hp hk).mono fun e w' k => ⟨k.e, Lib.hid (h.pp h1 h2 h3 h4 h5 h6 h7 h8 h9 k), twx (h.pp h1 h2 h3 h4 h5 h6 h7 h8 h9 k)⟩
theorem tw_PutD (W : World) (b m z : Nat) (cs : Array Value) (s : QK) (p : Pk) (ho : Inv19 s) (hp : p.size ≤ 18446744073709551615) (hk : s.l.length ≤ 1000) (s1 : QK) (w : World) (h : Two19 W b m z cs s1 s w) :
    Calls Try.prog 10 #[.pointer (some ⟨m, 0, none⟩), p.agg] w fun e w' => e = .returned (.bool (s.putB p)) ∧ Hid (Two19 W b m z cs s1 (s.putQ p) w') ∧ Hid (TwX W b m z cs w') := by
  obtain ⟨rb, g, v, ds, h1, h2, h3, h4, h5, h6, h7, h8, h9⟩ := h.q
  exact (rq_Put m 0 W.heap.size 30 ds v p s w (by decide) h.bel.size h4 h5 h6 ho.ok hk hp ho.sum ho.le).mono fun e w' k => ⟨k.e, Lib.hid (h.mm h1 h2 h3 h4 h6 h7 h8 h9 k), twx (h.mm h1 h2 h3 h4 h6 h7 h8 h9 k)⟩
theorem tw_Shift (W : World) (b m z : Nat) (cs : Array Value) (s : QK) (ho : Inv19 s) (s2 : QK) (w : World) (h : Two19 W b m z cs s s2 w) :
    Calls Try.prog 7 #[.pointer (some ⟨b, 0, none⟩)] w fun e w' => e = .returned (.tuple #[s.headQ.agg, .bool s.someQ]) ∧ Hid (Two19 W b m z cs s.shiftQ s2 w') := by
  obtain ⟨rb, g, v, ds, h1, h2, h3, h4, h5, h6, h7, h8, h9⟩ := h.q
  exact (wq_Shift b rb g s w h1 ho.ok).mono fun e w' k => ⟨k.e, Lib.hid (h.pp h1 h2 h3 h4 h5 h6 h7 h8 h9 k)⟩
theorem tw_ShiftD (W : World) (b m z : Nat) (cs : Array Value) (s : QK) (ho : Inv19 s) (hk : s.l.length ≤ 1000) (s1 : QK) (w : World) (h : Two19 W b m z cs s1 s w) :
    Calls Try.prog 8 #[.pointer (some ⟨m, 0, none⟩)] w fun e w' => e = .returned (.tuple #[s.headQ.agg, .bool s.someQ]) ∧ Hid (Two19 W b m z cs s1 s.shiftQ w') := by
  obtain ⟨rb, g, v, ds, h1, h2, h3, h4, h5, h6, h7, h8, h9⟩ := h.q
  cases e : s.l with
  | nil =>
    have e1 : s.headQ = Itm.z := by unfold QK.headQ; rw [e]; rfl
    have e2 : s.someQ = false := by unfold QK.someQ; rw [e]; rfl
    have e3 : s.shiftQ = s := by
      unfold QK.shiftQ; rw [e1, e]
      have : Pl.subS s.n (Itm.z : Pk).size = s.n := rfl
      rw [this]
      cases s; simp at e; subst e; rfl
    rw [e1, e2, e3]
    exact (rq_Shift_nil m 0 W.heap.size 30 ds v s w (by decide) h4 h5 h6 e).mono fun e w' k => ⟨k.e, Lib.hid (h.mm h1 h2 h3 h4 h6 h7 h8 h9 k)⟩
  | cons x t =>
    have e1 : s.headQ = x := by unfold QK.headQ; rw [e]; rfl
    have e2 : s.someQ = true := by unfold QK.someQ; rw [e]; rfl
    have e3 : s.shiftQ = ⟨t, s.shiftQ.n, s.room, s.dr, s.lost⟩ := by unfold QK.shiftQ; rw [e]; rfl
    rw [e1, e2, e3]
    exact (rq_Shift_cons m 0 W.heap.size 30 ds v s x t w (by decide) h.bel.size h4 h5 h6 hk e s.shiftQ.n).mono fun e w' k => ⟨k.e, Lib.hid (h.mm h1 h2 h3 h4 h6 h7 h8 h9 k)⟩
theorem tw_Dropped (W : World) (b m z : Nat) (cs : Array Value) (s s2 : QK) (w : World) (h : Two19 W b m z cs s s2 w) :
    Calls Try.prog 11 #[.pointer (some ⟨b, 0, none⟩)] w fun e w' => e = .returned (.tuple #[.int .u64 (s.dr : Int), .int .u64 (s.lost : Int)]) ∧ Drawn w w' := by
  obtain ⟨rb, g, v, ds, h1, _⟩ := h.q
  exact wq_Dropped b rb g s w h1
theorem tw_All (W : World) (b m z : Nat) (cs : Array Value) (s s2 : QK) (w : World) (h : Two19 W b m z cs s s2 w) :
    Calls Try.prog 12 #[.pointer (some ⟨b, 0, none⟩)] w (PkLayPost w s.l) := by
  obtain ⟨rb, g, v, ds, h1, _⟩ := h.q
  exact wq_All b rb g s w h1
theorem tw_Bytes (W : World) (b m z : Nat) (cs : Array Value) (s s2 : QK) (w : World) (h : Two19 W b m z cs s s2 w) :
    Calls Try.prog 14 #[.pointer (some ⟨b, 0, none⟩)] w fun e w' => e = .returned (.int .u64 (s.n : Int)) ∧ w = w' := by
  obtain ⟨rb, g, v, ds, h1, _⟩ := h.q
  exact wq_room b rb g s w h1
theorem tw_BytesD (W : World) (b m z : Nat) (cs : Array Value) (s s1 : QK) (ho : Inv19 s) (hk : s.l.length ≤ 1000) (w : World) (h : Two19 W b m z cs s1 s w) :
    Calls Try.prog 15 #[.pointer (some ⟨m, 0, none⟩)] w fun e w' => e = .returned (.int .u64 (s.n : Int)) ∧ w = w' := by
  obtain ⟨rb, g, v, ds, h1, h2, h3, h4, h5, h6, _⟩ := h.q
  have := rq_Bytes m 0 W.heap.size 30 ds v s w h4 h5 h6 hk ho.ok.sz
  rw [ho.sum] at this
  exact this

end Go.Proofs.Yteolchbeiidapaa
