/- Rows of ranges of the call's own over this translation. -/
import Derived.Test.YtfpopbhbhdhdnaaSo
import Derived.Maps.AppendAt
import Derived.OwnWalk
set_option linter.unusedVariables false
namespace Go.Proofs.Ytfpopbhbhdhdnaa
open Go.RowKit

theorem rn_info : (Try.prog.info? 56).map (fun i => (i.zero, i.size, i.bytes)) = some (some (.agg #[.int .u64 0, .int .u64 0]), 2, 16) := by kernel_rfl
abbrev rcs (l : List Rn) : List Value := l.flatMap (Itm.cs (α := Rn))

/-- A slice of ranges of the call's own: nil, or a row that it made. -/
def RR (w : World) (v : Value) (l : List Rn) : Prop := w.ownsRow 0 56 2 v l.length (rcs l)

theorem RR.nil (w : World) : RR w (.slice none 0 0) [] := World.ownsRow_nil w 0 _ 2
theorem RR.form {w : World} {v : Value} {l : List Rn} (h : RR w v l) : (v = .slice none 0 0 ∧ l = []) ∨ ∃ g cap, v = .slice (some ⟨g, 0, none⟩) l.length cap ∧ g < w.heap.size := by
  rcases h.2 with ⟨e, k⟩ | ⟨g, cap, cur, e, _, hg, _⟩
  · exact .inl ⟨e, List.eq_nil_of_length_eq_zero k⟩
  · exact .inr ⟨g, cap, e, Blk.lt hg⟩
theorem RR.form1 {w : World} {v : Value} {l : List Rn} (h : RR w v l) (hl : 0 < l.length) : ∃ g cap, v = .slice (some ⟨g, 0, none⟩) l.length cap ∧ g < w.heap.size := by
  rcases h.form with ⟨_, rfl⟩ | k
  · simp at hl
  · exact k
theorem RR.inv {w : World} {l : List Rn} {g n cap : Nat} (h : RR w (.slice (some ⟨g, 0, none⟩) n cap) l) : n = l.length ∧ ∃ cur, Blk w g 56 cur ∧ n ≤ cap ∧ cap ≤ maxLen ∧ cur.size = cap * 2 ∧ cur.toList.take (n * 2) = rcs l := by
  rcases h.2 with ⟨e, _⟩ | ⟨g', cap', cur, e, _, hg, h1, h2, h3, h4⟩
  · cases e
  · injection e with e e2 e3; injection e with e; injection e with e; subst e; subst e2; subst e3
    exact ⟨rfl, cur, hg, h1, h2, h3, h4⟩
theorem RR.mk {w : World} {l : List Rn} {g n cap : Nat} {cur : Array Value} (h0 : n = l.length) (h : Blk w g 56 cur) (h1 : n ≤ cap) (h2 : cap ≤ maxLen) (h3 : cur.size = cap * 2) (h4 : cur.toList.take (n * 2) = rcs l) : RR w (.slice (some ⟨g, 0, none⟩) n cap) l := by
  subst h0
  exact ⟨icells_len (α := Rn) l, .inr ⟨g, cap, cur, rfl, Nat.zero_le _, h, h1, h2, h3, h4⟩⟩
theorem RR.blk {w : World} {l : List Rn} {g n cap : Nat} (h : RR w (.slice (some ⟨g, 0, none⟩) n cap) l) : ∃ cs, Blk w g 56 cs := by
  obtain ⟨_, cur, hg, _⟩ := h.inv
  exact ⟨cur, hg⟩
theorem RR.same {w w' : World} {v : Value} {l : List Rn} (h : RR w v l) (hk : ∀ g cs, v.ownBlock = some g → Blk w g 56 cs → w'.heap[g]? = w.heap[g]?) : RR w' v l := by
  refine ⟨h.1, ?_⟩
  rcases h.2 with c | ⟨g, cap, cur, e, hb, hg, k⟩
  · exact .inl c
  · exact .inr ⟨g, cap, cur, e, hb, by rw [hk g cur (by rw [e]; rfl) hg]; exact hg, k⟩
theorem RR.keep {w w' : World} {v : Value} {l : List Rn} (h : RR w v l) (k : Below w.heap.size w w') : RR w' v l := h.same fun g cs _ hb => k.block g hb.lt
theorem RR.drew {w : World} {v : Value} {l : List Rn} (h : RR w v l) : RR w.drew v l := h
theorem RR.fr {w w' : World} {v : Value} {l : List Rn} {L : List Nat} (h : RR w v l) (k : Fr w w' L) (hl : ∀ g, v.ownBlock = some g → g ∉ L) : RR w' v l := h.same fun g cs e hb => k.block g hb.lt (hl g e)
theorem RR.its {w : World} {l : List Rn} {p : Option Addr} {n cap : Nat} (h : RR w (.slice p n cap) l) : Its w p l := by
  intro hp
  obtain ⟨g, c, e, hg⟩ := h.form1 hp
  injection e with e1 e2 e3
  subst e1
  obtain ⟨_, cur, hb, _, _, h3, h4⟩ := h.inv
  refine ⟨g, 0, rfl, hg, fun i j hi hj => ?_⟩
  have k2 : Itm.k Rn = 2 := rfl
  rw [k2] at hj ⊢
  have e := iget (α := Rn) l i j (by rw [k2]; exact hj)
  rw [k2] at e
  have hj' : j < (Itm.cs (l.getD i Itm.z)).length := by rw [Itm.len]; exact hj
  have e' : (rcs l)[i * 2 + j]? = (Itm.cs (l.getD i Itm.z))[j]? := by rw [e]; simp [List.getD_eq_getElem?_getD, hi]
  rw [List.getElem?_eq_getElem hj'] at e' ⊢
  rw [Nat.zero_add]
  refine hb.cell ?_
  rw [← h4, List.getElem?_take_of_lt (by omega)] at e'
  simpa using e'
theorem its_two {w : World} {l : List Rn} {ad : Addr} (h : Its w (some ad) l) (hp : 0 < l.length) : ∃ b off, ad = ⟨b, off, none⟩ ∧ b < w.heap.size ∧
    ∀ i, i < l.length → w.cell? ⟨b, off + i * 2, none⟩ = some (.int .u64 ((l.getD i Itm.z).a : Int)) ∧ w.cell? ⟨b, off + i * 2 + 1, none⟩ = some (.int .u64 ((l.getD i Itm.z).b : Int)) := by
  obtain ⟨b, off, e, hb, hc⟩ := h hp
  injection e with e
  refine ⟨b, off, e, hb, fun i hi => ?_⟩
  have k2 : Itm.k Rn = 2 := rfl
  have a0 := hc i 0 hi (by decide)
  have a1 := hc i 1 hi (by decide)
  rw [k2] at a0 a1
  exact ⟨a0, a1⟩

/-- What an append of ranges leaves. -/
theorem RR.app {w : World} {l m : List Rn} {n : Nat} {v : Value} (hn : n = l.length + m.length) (h : w.ownsRow 0 56 2 v n (rcs l ++ rcs m)) : RR w v (l ++ m) := by
  subst hn
  unfold RR rcs
  rw [List.flatMap_append, List.length_append]
  exact h

/-- append of ranges onto a row of the call's own. -/
theorem wpList_append_rr {w : World} {ops : Array Oper} {rest : List Oper} {o : Oper} {a : Act} {Q : Exit → Act → World → Prop} (hgd : o.guard = none) (s x : Operand)
    (ho : o.op = .call { callee := .builtin .append, args := #[s, x], argTypes := #[30, 30] }) (v : Value) (l : List Rn)
    (hs : a.eval s = v) (hv : RR w v l) (p : Option Addr) (m c : Nat) (r : List Rn) (hx : a.eval x = .slice p m c) (hm : r.length = m) (hpos : 0 < r.length) (hN : Its w p r) (hb : l.length + r.length ≤ 1000000)
    (h : ∀ g' cap' w', RR w' (.slice (some ⟨g', 0, none⟩) (l.length + r.length) cap') (l ++ r) → w.grownBy w' v.ownBlock → (some g' = v.ownBlock ∨ g' = w.heap.size) → wpList Try.prog ops Q rest (a.put o.dst (.slice (some ⟨g', 0, none⟩) (l.length + r.length) cap')) w') :
    wpList Try.prog ops Q (o :: rest) a w := by
  obtain ⟨i0, hi, hz0, hz1, hz2⟩ := info_parts rn_info
  obtain ⟨ad, rfl, hc⟩ := hN.cells hpos
  subst hm
  refine wpList_append_own_at _ hgd s x 30 ho 0 56 i0 (.agg #[.int .u64 0, .int .u64 0]) 2 16 Try.underlying30 hi hz0 hz1 hz2 rfl (by decide) v l.length (rcs l) hs hv ad r.length c (rcs r) hx (icells_len (α := Rn) r) hc ?_ (by unfold maxLen; omega) (by omega) (Nat.zero_le _) ?_
  · intro u hu
    obtain ⟨x, _, hx⟩ := List.mem_flatMap.1 hu
    exact Itm.one x u hx
  · intro v' w' hown' hgr hnil hat
    have hR : RR w' v' (l ++ r) := RR.app rfl hown'
    obtain ⟨g', cap', e, _⟩ := hR.form1 (by simp; omega)
    rw [List.length_append] at e
    subst e
    refine h g' cap' w' hR hgr ?_
    rcases hat with k | k
    · exact .inl k
    · exact .inr (by simpa [Value.ownBlock] using k)
end Go.Proofs.Ytfpopbhbhdhdnaa
