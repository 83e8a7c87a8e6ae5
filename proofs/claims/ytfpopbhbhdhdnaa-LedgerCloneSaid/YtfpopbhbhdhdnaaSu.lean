/- slices.SortFunc of ranges over this translation. -/
import Derived.Test.YtfpopbhbhdhdnaaSt
import Derived.Test.YtfpopbhbhdhdnaaSgb
set_option linter.unusedVariables false
namespace Go.Proofs.Ytfpopbhbhdhdnaa
open Go.RowKit Go.Sort

def cfR (x y : Rn) : Int := cmpN x.a y.a
theorem ltR (x y : Rn) : ltOf cfR x y = decide (x.a < y.a) := by
  unfold ltOf cfR
  have := cmpN_neg x.a y.a
  simp [this]
theorem swoR : SWO (ltOf cfR) where
  irrefl x := by rw [ltR]; simp
  trans x y z h1 h2 := by rw [ltR] at *; simp at *; omega
  ntrans x y z h1 h2 := by rw [ltR] at *; simp at *; omega

theorem flat_rcs (l : List Rn) : (flatK (Itm.cs (α := Rn)) 2 l.toArray).toList = rcs l := by
  apply List.ext_getElem?; intro t
  have hs : (flatK (Itm.cs (α := Rn)) 2 l.toArray).size = l.length * 2 := by simp
  by_cases h : t < l.length * 2
  · have e := iget (α := Rn) l (t / 2) (t % 2) (by show t % 2 < 2; omega)
    have k2 : Itm.k Rn = 2 := rfl
    rw [k2, show t / 2 * 2 + t % 2 = t by omega] at e
    rw [show rcs l = l.flatMap (Itm.cs (α := Rn)) from rfl, e]
    have hl : t / 2 < l.length := by omega
    have g := get_flatK (Itm.cs (α := Rn)) 2 l.toArray t (by simpa using h)
    have ht : t < (flatK (Itm.cs (α := Rn)) 2 l.toArray).size := by omega
    rw [getElem!_pos _ t ht] at g
    rw [Array.getElem?_toList, Array.getElem?_eq_getElem ht, g]
    simp [hl]
    have hc : (Itm.cs l[t / 2]).length = 2 := Itm.len (α := Rn) _
    rw [List.getElem?_eq_getElem (by omega)]
    simp
  · rw [List.getElem?_eq_none (by simp; omega), List.getElem?_eq_none (by have := icells_len (α := Rn) l; have k2 : Itm.k Rn = 2 := rfl; rw [k2] at this; show (l.flatMap _).length ≤ t; omega)]

theorem RR.holds {w : World} {l : List Rn} {g n cap : Nat} (h : RR w (.slice (some ⟨g, 0, none⟩) n cap) l) : HoldsK (Itm.cs (α := Rn)) 2 w g 0 l.toArray := by
  obtain ⟨_, cur, hb, _, _, h3, h4⟩ := h.inv
  intro j hj
  have hj' : j < n * 2 := by simp at hj; have := h.inv.1; omega
  refine ⟨?_, hb.free _⟩
  rw [Nat.zero_add]
  refine hb.cell ?_
  have e : (rcs l)[j]? = some (flatK (Itm.cs (α := Rn)) 2 l.toArray)[j]! := by
    rw [← flat_rcs, Array.getElem?_toList, Array.getElem?_eq_getElem hj, getElem!_pos _ j hj]
  rw [← h4, List.getElem?_take_of_lt hj'] at e
  simpa using e

theorem RR.sorted {w : World} {l l' : List Rn} {g n cap : Nat} (h : RR w (.slice (some ⟨g, 0, none⟩) n cap) l) (hl : l'.length = l.length) (m : Nat) (os : Array Obj) :
    RR (sortWorldK (Itm.cs (α := Rn)) 2 w g 0 m l'.toArray os) (.slice (some ⟨g, 0, none⟩) n cap) l' ∧ Fr w (sortWorldK (Itm.cs (α := Rn)) 2 w g 0 m l'.toArray os) [g] := by
  obtain ⟨hn, cur, hb, h1, h2, h3, h4⟩ := h.inv
  have hlt := hb.lt
  have hw : (sortWorldK (Itm.cs (α := Rn)) 2 w g 0 m l'.toArray os).heap = w.heap.modify g (onCells (putCells id 0 (flatK (Itm.cs (α := Rn)) 2 l'.toArray))) ++ os := rfl
  have hold : ∀ k, k < w.heap.size → (sortWorldK (Itm.cs (α := Rn)) 2 w g 0 m l'.toArray os).heap[k]? = (w.heap.modify g (onCells (putCells id 0 (flatK (Itm.cs (α := Rn)) 2 l'.toArray))))[k]? := fun k hk => by
    rw [hw, Array.getElem?_append_left (by simpa using hk)]
  refine ⟨RR.mk (cur := putCells id 0 (flatK (Itm.cs (α := Rn)) 2 l'.toArray) cur) (by omega) ?_ h1 h2 ?_ ?_, ⟨rfl, rfl, rfl, ?_, fun k hk hg => ?_⟩⟩
  · unfold Blk at hb ⊢
    rw [hold g hlt, Array.getElem?_modify, if_pos rfl, hb]
    rfl
  · simp [putCells, h3]
  · apply List.ext_getElem?; intro t
    by_cases ht : t < n * 2
    · have hc : t < cur.size := by omega
      have hF : t < (flatK (Itm.cs (α := Rn)) 2 l'.toArray).size := by simp; omega
      rw [List.getElem?_take_of_lt ht, ← flat_rcs, Array.getElem?_toList, Array.getElem?_toList, putCells, Array.getElem?_mapIdx, Array.getElem?_eq_getElem hc, Array.getElem?_eq_getElem hF]
      simp only [Option.map_some]
      rw [if_pos ⟨Nat.zero_le _, by omega⟩, getElem!_pos _ _ (by omega)]
      simp
    · rw [List.getElem?_eq_none (by simp; omega), List.getElem?_eq_none (by have := icells_len (α := Rn) l'; have k2 : Itm.k Rn = 2 := rfl; rw [k2] at this; show (l'.flatMap _).length ≤ t; omega)]
  · rw [hw]; simp
  · rw [hold k hk, Array.getElem?_modify, if_neg (by simp at hg; omega)]

/-- What the sort leaves: the same ranges, rising. -/
def Sorted1 (g n cap : Nat) (l : List Rn) (w : World) (e : Ending) (w' : World) : Prop := e = .returned (.tuple #[]) ∧ ∃ l', l'.Perm l ∧ Rise l' ∧ RR w' (.slice (some ⟨g, 0, none⟩) n cap) l' ∧ Fr w w' [g]

theorem sort_any (g cap : Nat) (l : List Rn) (w : World) (h : RR w (.slice (some ⟨g, 0, none⟩) l.length cap) l) (hb : l.length ≤ 1000000) :
    Calls Try.prog 45 #[.slice (some ⟨g, 0, none⟩) l.length cap, .func (.func 46) #[] #[]] w (Sorted1 g l.length cap l w) := by
  obtain ⟨_, cur, hbk, _⟩ := h.inv
  have eg : ∀ args w, (callFunc 46 args).run Try.prog w = .ok (.enter 46 args) w := enters_of Try.func46 (by kernel_rfl) rfl
  have hcon := AnyQ.slices_SortFunc Try.sortR 2 Try.isAgg56 Try.sizeOf56 (Itm.cs (α := Rn)) (fun x => Itm.len x) (fun x v hv => Itm.one x v hv) cfR swoR 46 #[] g 0 cap l.toArray w eg
    (fun m os dk _ x y => rising_any x y _) h.holds hbk.lt (by simp; omega)
  change Calls Try.prog 45 _ _ _ at hcon
  refine hcon.mono ?_
  rintro e w' ⟨he, d', m, os, hp, hs, rfl⟩
  have hsz : d'.size = l.length := by have := hp.1; simpa using this
  have hperm : d'.toList.Perm l := by
    have := hp.2.2
    simpa [Array.extract_eq_self_of_le, hsz] using this
  obtain ⟨h1, h2⟩ := h.sorted (l' := d'.toList) (by simp [hsz]) m os
  refine ⟨he, d'.toList, hperm, ?_, by simpa using h1, by simpa using h2⟩
  unfold Rise
  rw [List.pairwise_iff_getElem]
  intro i j hi hj hij
  have := hs i j (Nat.zero_le _) hij (by simpa [hsz] using hj)
  rw [ltR] at this
  simp at hi hj this ⊢
  rw [getElem!_pos _ i hi, getElem!_pos _ j hj] at this
  simpa using this
end Go.Proofs.Ytfpopbhbhdhdnaa
