/- A region whose operations J come up in any order, one frame for all of them: told by what is still to come. -/
import Derived.Test.YtkgdfbiokgggmaaProg
import Derived.WalkKit
import Derived.RegionTactic
set_option linter.unusedVariables false
namespace Go.Proofs.Ytkgdfbiokgggmaa
open Go.RowKit

section
variable {P : Program} {ops : Array Oper} {Q : Exit → Act → World → Prop} {md : Region.Mode}

/-- All of n operations have come up, but those of 'rem' and 'late'. -/
def Lr (n : Nat) (rem late : List Nat) : Array Bool := ((List.range n).map fun i => !(rem.contains i || late.contains i)).toArray
theorem Lr_get (n : Nat) (rem late : List Nat) (i : Nat) : (Lr n rem late)[i]? = if i < n then some (!(rem.contains i || late.contains i)) else none := by
  unfold Lr
  rw [List.getElem?_toArray, List.getElem?_map]
  by_cases h : i < n
  · rw [if_pos h, List.getElem?_range h]; rfl
  · rw [if_neg h, List.getElem?_eq_none (by simpa using h)]; rfl
theorem Lr_true (n : Nat) (rem late : List Nat) (i : Nat) : (Lr n rem late).getD i true = false ↔ i < n ∧ (i ∈ rem ∨ i ∈ late) := by
  rw [Array.getD_eq_getD_getElem?, Lr_get]
  by_cases h : i < n
  · simp [h, Classical.or_iff_not_imp_left]
  · simp [h]
theorem Lr_false (n : Nat) (rem late : List Nat) (i : Nat) : (Lr n rem late).getD i false = true ↔ i < n ∧ i ∉ rem ∧ i ∉ late := by
  rw [Array.getD_eq_getD_getElem?, Lr_get]
  by_cases h : i < n
  · simp [h]
  · simp [h]
theorem Lr_set (n : Nat) {rem late : List Nat} (hr : rem.Nodup) {i : Nat} (hi : i ∈ rem) (hl : i ∉ late) : (Lr n rem late).setIfInBounds i true = Lr n (rem.erase i) late := by
  apply Array.ext_getElem?
  intro j
  rw [Array.getElem?_setIfInBounds, Lr_get, Lr_get]
  have hsz : (Lr n rem late).size = n := by simp [Lr]
  rw [hsz]
  by_cases c : i = j
  · subst c
    have h1 : i ∉ rem.erase i := fun h => (hr.mem_erase_iff.1 h).1 rfl
    by_cases h : i < n
    · simp [h, h1, hl]
    · simp [h]
  · have h1 : (rem.erase i).contains j = rem.contains j := by
      have : j ∈ rem.erase i ↔ j ∈ rem := by rw [hr.mem_erase_iff]; simp [Ne.symm c]
      rw [Bool.eq_iff_iff]
      simpa using this
    rw [if_neg c, h1]

/-- An operation that puts an entry into a map. -/
theorem wpOp_insert {i : Nat} {o : Oper} {a : Act} {w w' : World} {K : Act → World → Prop} {t : TypeId} {m k v : Operand} (ho : ops[i]? = some o) (hg : o.guard = none) (hop : o.op = .insert t m k v) (hd : o.dst = none)
    (hrun : (Instr.mapUpdate t (a.eval m) (a.eval k) (a.eval v)).run P w = .ok () w') (h : K a w') : wpOp P ops Q i K a w := by
  refine wpOp_step ho (fun K' hK => ?_)
  have hw : Region.wanted o (yielded ops a.tmps) = true := by unfold Region.wanted; rw [hg]
  rw [if_pos hw]
  unfold Oper.wp
  simp [execOp, hop, hrun, Result.andThen, Oper.upon, hd, Act.put]
  exact hK _ _ h
theorem any_order {n f : Nat} {J late : List Nat} {a : Act} (I : List Nat → World → Prop)
    (hJ : ∀ i ∈ J, i < n ∧ i ∉ late)
    (hearly : ∀ i ∈ J, ∃ o, ops[i]? = some o ∧ ∀ e ∈ o.after, e.on < n ∧ e.on ∉ J ∧ e.on ∉ late)
    (hlate : ∀ i ∈ late, ∃ o, ops[i]? = some o ∧ ∀ j ∈ J, ∃ e ∈ o.after, Region.binds md e = true ∧ e.on = j)
    (hstep : ∀ (rem : List Nat) (i : Nat) (w : World) (K : Act → World → Prop), i ∈ J → i ∈ rem → rem.Nodup → (∀ j ∈ rem, j ∈ J) → I rem w → (∀ w', I (rem.erase i) w' → K a w') → wpOp P ops Q i K a w)
    (hend : ∀ w, I [] w → wpAny P md ops Q f (Lr n [] late) a w) :
    ∀ (m : Nat) (rem : List Nat) (w : World), rem.length = m → rem.Nodup → (∀ j ∈ rem, j ∈ J) → I rem w → wpAny P md ops Q (m + f) (Lr n rem late) a w
  | 0, rem, w, hm, _, _, hI => by
    obtain rfl := List.eq_nil_of_length_eq_zero hm
    rw [Nat.zero_add]
    exact hend w hI
  | m + 1, rem, w, hm, hn, hs, hI => by
    have e : m + 1 + f = (m + f) + 1 := by omega
    rw [e]
    have hin : ∀ i, i ∈ Region.ready md ops (Lr n rem late) ↔ i ∈ rem := fun i => by
      rw [mem_ready, Lr_true]
      constructor
      · rintro ⟨⟨h1, h2⟩, o, ho, hall⟩
        rcases h2 with h2 | h2
        · exact h2
        · obtain ⟨o', ho', hj⟩ := hlate i h2
          rw [ho] at ho'
          cases ho'
          match rem, hm with
          | j :: r, _ =>
            obtain ⟨e, he, hb, rfl⟩ := hj j (hs j (by simp))
            have := (Lr_false n _ _ _).1 (hall e he hb)
            exact absurd (by simp) this.2.1
      · intro h
        have h0 := hJ i (hs i h)
        obtain ⟨o, ho, hall⟩ := hearly i (hs i h)
        exact ⟨⟨h0.1, Or.inl h⟩, o, ho, fun e he _ => (Lr_false n _ _ _).2 ⟨(hall e he).1, fun hr => (hall e he).2.1 (hs _ hr), (hall e he).2.2⟩⟩
    refine ⟨fun h0 => ?_, fun i hi => ?_⟩
    · match rem, hm with
      | j :: r, _ =>
        have := (hin j).2 (by simp)
        rw [h0] at this
        cases this
    · have hi' := (hin i).1 hi
      refine hstep rem i w _ (hs i hi') hi' hn hs hI (fun w' hI' => ?_)
      rw [Lr_set n hn hi' (hJ i (hs i hi')).2]
      exact any_order I hJ hearly hlate hstep hend m (rem.erase i) w' (by rw [List.length_erase_of_mem hi', hm]; rfl) (hn.erase _) (fun j hj => hs j (List.mem_of_mem_erase hj)) hI'

def earlyB (ops : Array Oper) (n : Nat) (J late : List Nat) : Bool := J.all fun i => match ops[i]? with | some o => o.after.toList.all (fun e => decide (e.on < n) && !J.contains e.on && !late.contains e.on) | none => false
def lateB (md : Region.Mode) (ops : Array Oper) (J late : List Nat) : Bool := late.all fun i => match ops[i]? with | some o => J.all (fun j => o.after.toList.any (fun e => Region.binds md e && e.on == j)) | none => false
theorem early_of {n : Nat} {J late : List Nat} (h : earlyB ops n J late = true) : ∀ i ∈ J, ∃ o, ops[i]? = some o ∧ ∀ e ∈ o.after, e.on < n ∧ e.on ∉ J ∧ e.on ∉ late := fun i hi => by
  have h1 := List.all_eq_true.1 h i hi
  cases ho : ops[i]? with
  | none => simp [ho] at h1
  | some o =>
    simp only [ho] at h1
    refine ⟨o, rfl, fun e he => ?_⟩
    have h2 := List.all_eq_true.1 h1 e (Array.mem_toList_iff.2 he)
    simpa [and_assoc] using h2
theorem late_of {J late : List Nat} (h : lateB md ops J late = true) : ∀ i ∈ late, ∃ o, ops[i]? = some o ∧ ∀ j ∈ J, ∃ e ∈ o.after, Region.binds md e = true ∧ e.on = j := fun i hi => by
  have h1 := List.all_eq_true.1 h i hi
  cases ho : ops[i]? with
  | none => simp [ho] at h1
  | some o =>
    simp only [ho] at h1
    refine ⟨o, rfl, fun j hj => ?_⟩
    obtain ⟨e, he, hb⟩ := List.any_eq_true.1 (List.all_eq_true.1 h1 j hj)
    exact ⟨e, Array.mem_toList_iff.1 he, by simpa using hb⟩
end
end Go.Proofs.Ytkgdfbiokgggmaa
