/- A slice of items of the call's own, whatever the items are (no program here). -/
import Derived.Test.YtlhgiboajnhahaaSw
import Derived.Maps.AppendAt
set_option linter.unusedVariables false
namespace Go.Proofs.Ytlhgiboajnhahaa
open Go.RowKit
variable {α : Type} [Itm α]

/-- A slice of items, in a block of the call's own. -/
def SOwn (T : TypeId) (B : Nat) (w : World) (v : Value) (l : List α) : Prop := w.ownsRow B T (Itm.k α) v l.length (l.flatMap Itm.cs)
/-- The block of a slice; where it has none, another's. -/
def sb (v : Value) (m : Nat) : Nat := v.ownBlock.getD m
theorem SOwn.nil (T : TypeId) (B : Nat) (w : World) : SOwn T B w (.slice none 0 0) ([] : List α) := World.ownsRow_nil _ _ _ _
theorem SOwn.form {T : TypeId} {B : Nat} {w : World} {v : Value} {l : List α} (h : SOwn T B w v l) : ∃ ao cap, v = .slice ao l.length cap ∧ l.length ≤ cap ∧ cap ≤ maxLen ∧ Its w ao l ∧ (0 < l.length → ∃ g, ao = some ⟨g, 0, none⟩ ∧ ∀ m, sb v m = g) := by
  obtain ⟨hl, h⟩ := h
  rcases h with ⟨rfl, hn⟩ | ⟨g, cap, cur, rfl, hb, hg, hnc, hmax, hcs, htake⟩
  · rw [hn]
    have : l = [] := List.eq_nil_of_length_eq_zero hn
    subst this
    exact ⟨none, 0, rfl, Nat.le_refl _, by decide, Its.none _ _, fun h => absurd h (by simp)⟩
  · refine ⟨some ⟨g, 0, none⟩, cap, rfl, hnc, hmax, fun hp => ⟨g, 0, rfl, lt_of_block hg, fun i j hi hj => ?_⟩, fun _ => ⟨g, rfl, fun _ => rfl⟩⟩
    have hlt : i * Itm.k α + j < l.length * Itm.k α := by
      have := Nat.mul_le_mul_right (Itm.k α) (Nat.succ_le_of_lt hi); rw [Nat.succ_mul] at this; omega
    have e : (cur.toList.take (l.length * Itm.k α))[i * Itm.k α + j]? = (l.flatMap (Itm.cs (α := α)))[i * Itm.k α + j]? := by rw [htake]
    rw [List.getElem?_take_of_lt hlt, Array.getElem?_toList] at e
    have e2 := iget l i j hj
    have hx : l[i]? = some (l.getD i Itm.z) := by rw [List.getD_eq_getElem?_getD, List.getElem?_eq_getElem hi]; rfl
    rw [hx] at e2
    rw [Nat.zero_add, ← show (l.flatMap (Itm.cs (α := α)))[i * Itm.k α + j]? = (Itm.cs (l.getD i Itm.z))[j]? from e2, ← e]
    have hcur : i * Itm.k α + j < cur.size := by rw [hcs]; have := Nat.mul_le_mul_right (Itm.k α) hnc; omega
    rw [Array.getElem?_eq_getElem hcur]
    exact (show Blk w g T cur from hg).cell (Array.getElem?_eq_getElem hcur)
theorem SOwn.blk {T : TypeId} {B : Nat} {w w' : World} {v : Value} {l : List α} (h : SOwn T B w v l) (hk : ∀ g cs, v.ownBlock = some g → Blk w g T cs → Blk w' g T cs) : SOwn T B w' v l := by
  obtain ⟨hl, h⟩ := h
  refine ⟨hl, ?_⟩
  rcases h with ⟨rfl, hn⟩ | ⟨g, cap, cur, rfl, hb, hg, hr⟩
  · exact .inl ⟨rfl, hn⟩
  · exact .inr ⟨g, cap, cur, rfl, hb, hk g cur rfl hg, hr⟩
theorem SOwn.keep {T : TypeId} {B : Nat} {w w' : World} {v : Value} {l : List α} (h : SOwn T B w v l) (k : Below w.heap.size w w') : SOwn T B w' v l := h.blk (fun _ _ _ hb => hb.keep k)
theorem SOwn.fr {T : TypeId} {B m : Nat} {w w' : World} {v : Value} {l : List α} {L : List Nat} (h : SOwn T B w v l) (k : Fr w w' L) (hn : sb v m ∉ L) : SOwn T B w' v l :=
  h.blk (fun g cs hg hb => hb.fr k (by have : sb v m = g := by unfold sb; rw [hg]; rfl
                                       rw [← this]; exact hn))
theorem SOwn.lt {T : TypeId} {B m : Nat} {w : World} {v : Value} {l : List α} (h : SOwn T B w v l) (hm : m < w.heap.size) : sb v m < w.heap.size := by
  obtain ⟨hl, h⟩ := h
  rcases h with ⟨rfl, hn⟩ | ⟨g, cap, cur, rfl, hb, hg, hr⟩
  · exact hm
  · exact lt_of_block hg
theorem SOwn.base {T : TypeId} {B m : Nat} {w : World} {v : Value} {l : List α} (h : SOwn T B w v l) (hm : B ≤ m) : B ≤ sb v m := by
  obtain ⟨hl, h⟩ := h
  rcases h with ⟨rfl, hn⟩ | ⟨g, cap, cur, rfl, hb, hg, hr⟩
  · exact hm
  · exact hb
theorem SOwn.own {T : TypeId} {B : Nat} {w : World} {v : Value} {l : List α} (h : SOwn T B w v l) : ∀ g, v.ownBlock = some g → B ≤ g ∧ ∃ cs, Blk w g T cs := by
  obtain ⟨hl, h⟩ := h
  rcases h with ⟨rfl, hn⟩ | ⟨g, cap, cur, rfl, hb, hg, hr⟩
  · intro g e; cases e
  · intro g' e
    obtain rfl : g = g' := by simpa [Value.ownBlock] using e
    exact ⟨hb, cur, hg⟩
theorem SOwn.at_ {T : TypeId} {B m : Nat} {w : World} {v : Value} {l : List α} (h : SOwn T B w v l) : sb v m = m ∨ ∃ cur, Blk w (sb v m) T cur := by
  obtain ⟨hl, h⟩ := h
  rcases h with ⟨rfl, hn⟩ | ⟨g, cap, cur, rfl, hb, hg, hr⟩
  · exact .inl rfl
  · exact .inr ⟨cur, hg⟩
theorem SOwn.weak {T : TypeId} {B B' : Nat} {w : World} {v : Value} {l : List α} (h : B ≤ B') (k : SOwn T B' w v l) : SOwn T B w v l := by
  obtain ⟨hl, k⟩ := k
  refine ⟨hl, ?_⟩
  rcases k with e | ⟨g, cap, cur, e, hb, r⟩
  · exact .inl e
  · exact .inr ⟨g, cap, cur, e, Nat.le_trans h hb, r⟩
theorem SOwn.snoc {T : TypeId} {B : Nat} {w : World} {v : Value} {l : List α} {x : α} (h : w.ownsRow B T (Itm.k α) v (l.length + 1) (l.flatMap Itm.cs ++ Itm.cs x)) : SOwn T B w v (l ++ [x]) := by
  unfold SOwn
  rw [List.length_append, List.flatMap_append]
  simpa using h
theorem sown_some {T : TypeId} {B n k a b : Nat} {w : World} {v' : Value} {xs : List Value} (h : w.ownsRow B T k v' n xs) (hat : v'.ownBlock = some a ∨ v'.ownBlock = some b) : ∃ g cap, v' = .slice (some ⟨g, 0, none⟩) n cap ∧ (g = a ∨ g = b) := by
  rcases h.2 with ⟨rfl, _⟩ | ⟨g, cap, cur, rfl, _⟩
  · rcases hat with e | e <;> cases e
  · exact ⟨g, cap, rfl, hat.imp Option.some.inj Option.some.inj⟩
theorem sown_succ {T : TypeId} {B n k : Nat} {w : World} {v' : Value} {xs : List Value} (h : w.ownsRow B T k v' (n + 1) xs) : ∃ g cap, v' = .slice (some ⟨g, 0, none⟩) (n + 1) cap := by
  rcases h.2 with ⟨rfl, h0⟩ | ⟨g, cap, cur, rfl, _⟩
  · omega
  · exact ⟨g, cap, rfl⟩
theorem sown_empty {T : TypeId} {B k : Nat} (w : World) (hB : B ≤ w.heap.size) : (w.alloc (.cells #[] T)).ownsRow B T k (.slice (some ⟨w.heap.size, 0, none⟩) 0 0) 0 [] :=
  ⟨by simp, .inr ⟨w.heap.size, 0, #[], rfl, hB, heap_alloc_new w _, Nat.le_refl _, by decide, by simp, by simp⟩⟩
theorem add_at (g off n : Nat) : (⟨g, off, none⟩ : Addr).add n = ⟨g, off + n, none⟩ := by
  simp only [Addr.add]
  split
  · next h => rw [h]; rfl
  · rfl
/-- The items behind the first one. -/
theorem its_tail {w : World} {g off : Nat} {x : α} {t : List α} (h : Its w (some ⟨g, off, none⟩) (x :: t)) : ∀ j u, (t.flatMap (Itm.cs (α := α)))[j]? = some u → w.cell? ((⟨g, off + Itm.k α, none⟩ : Addr).add j) = some u := fun j u hu => by
  obtain ⟨ad, e, hc⟩ := h.cells (by simp)
  injection e with e
  subst e
  have := hc (Itm.k α + j) u (by
    rw [List.flatMap_cons, List.getElem?_append_right (by rw [Itm.len]; omega), Itm.len]
    rw [show Itm.k α + j - Itm.k α = j by omega]; exact hu)
  rw [add_at] at this ⊢
  rw [show off + Itm.k α + j = off + (Itm.k α + j) by omega]; exact this
/-- Behind an append. -/
theorem bel_app {B : Nat} {W w w1 : World} {T : TypeId} {v : Value} {l : List α} (hb : Below B W w) (hB : B ≤ w.heap.size) (h : SOwn T B w v l) (o : Obj) (hg : (w.alloc o).grownBy w1 v.ownBlock) : Below B W w1 :=
  (hb.alloc hB o).grown hg (by simp; omega) (fun k e => (h.own k e).1)
end Go.Proofs.Ytlhgiboajnhahaa
