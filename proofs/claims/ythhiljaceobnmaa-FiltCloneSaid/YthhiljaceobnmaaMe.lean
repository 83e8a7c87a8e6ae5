/- Contracts of the document's own filter (goitref05) over this translation. -/
import Derived.Test.YthhiljaceobnmaaIn05
import Derived.BigRegion
set_option linter.unusedVariables false
namespace Go.Proofs.Ythhiljaceobnmaa
open Go.RowKit Pl

/-- The document's filter in memory: itself at block m, its readings a row that the call owns from block B on. -/
structure MAt (w : World) (B m : Nat) (v : Value) (win : Nat) (s : Bool) (now : Nat) (A : List Rd) : Prop where
  head : Blk w m 41 #[.int .u64 (win : Int), .bool s, .int .u64 (now : Int), v]
  row : RL w B v A
theorem MAt.keep {w w' : World} {B m : Nat} {v : Value} {win now : Nat} {s : Bool} {A : List Rd} (h : MAt w B m v win s now A) (k : Below w.heap.size w w') : MAt w' B m v win s now A := ⟨h.head.keep k, h.row.keep k⟩
theorem RL.ne {w : World} {B m : Nat} {v : Value} {A : List Rd} {T : TypeId} {cs : Array Value} (h : RL w B v A) (k : Blk w m T cs) (hT : T ≠ 34) : v.ownBlock ≠ some m := by
  intro e
  rcases h.2 with ⟨rfl, _⟩ | ⟨g, cap, rfl, _⟩
  · simp [Value.ownBlock] at e
  · simp [Value.ownBlock] at e
    subst e
    obtain ⟨cs', hb, _⟩ := RL.blk h
    exact (k.ty hb hT) rfl
theorem RL.set_other {w : World} {B m i : Nat} {v u : Value} {A : List Rd} (h : RL w B v A) (k : v.ownBlock ≠ some m) : RL (w.setCell ⟨m, i, none⟩ u) B v A :=
  h.same fun g cs e _ => Below.heap_setCell _ _ _ _ (by rintro rfl; exact k e)

theorem ref_Add (x y : Nat) (hx : x ≤ 18446744073709551615) (hy : y ≤ 18446744073709551615) (w : World) :
    Calls Try.prog 39 #[.int .u64 (x : Int), .int .u64 (y : Int)] w fun e w' => e = .returned (.int .u64 ((addS x y : Nat) : Int)) ∧ w = w' := by
  by_cases c : x + y ≤ 18446744073709551615
  · have e : addS x y = x + y := by unfold addS; omega
    have d : decide ((18446744073709551615 : Int) - (y : Int) < (x : Int)) = false := by simp; omega
    rw [e]
    clear e
    go_enter Try.func39, Try.ntmps39
    go_wp2
    go_ret
    exact ⟨by simp, rfl⟩
  · have e : addS x y = 18446744073709551615 := by unfold addS; omega
    have d : decide ((18446744073709551615 : Int) - (y : Int) < (x : Int)) = true := by simp; omega
    rw [e]
    clear e c
    go_enter Try.func39, Try.ntmps39
    go_wp2
    go_ret
    exact ⟨rfl, rfl⟩

set_option maxHeartbeats 400000 in
theorem me_Counts (B m win now : Nat) (s : Bool) (v : Value) (A : List Rd) (r : Rd) (w : World) (h : MAt w B m v win s now A) (hw : win ≤ 18446744073709551615) (hr : r.t ≤ 18446744073709551615) :
    Calls Try.prog 32 #[.pointer (some ⟨m, 0, none⟩), r.agg] w fun e w' => e = .returned (.bool (cnts win now r)) ∧ Below w.heap.size w w' := by
  unfold Rd.agg
  have HX := Lib.hid (Blk.new w 34 #[.int .u64 (r.t : Int), .int .u64 (r.x : Int)])
  have HH := Lib.hid (h.head.alloc (.cells #[.int .u64 (r.t : Int), .int .u64 (r.x : Int)] 34))
  have HW : Hid (Below w.heap.size w (w.alloc (.cells #[.int .u64 (r.t : Int), .int .u64 (r.x : Int)] 34))) := Lib.hid ((Below.refl _ _).alloc (Nat.le_refl _) _)
  have r0 := HX.out.drew.cell (i := 0) (v := .int .u64 (r.t : Int)) rfl
  have a0 := HH.out.drew.cell (i := 0) (v := .int .u64 (win : Int)) rfl
  have a2 := HH.out.drew.cell (i := 2) (v := .int .u64 (now : Int)) rfl
  have HA := Lib.hid (ref_Add r.t win hr hw)
  clear h
  go_enter Try.func32, Try.ntmps32
  go_wp2_with fail
  generalize (w.alloc (.cells #[.int .u64 (r.t : Int), .int .u64 (r.x : Int)] 34)) = wa at *
  go_region_held3 (fun w' => w'.cell? ⟨w.heap.size, 0, none⟩ = some (.int .u64 (r.t : Int)) ∧ w'.cell? ⟨m, 0, none⟩ = some (.int .u64 (win : Int)) ∧ w'.cell? ⟨m, 2, none⟩ = some (.int .u64 (now : Int)))
    (first | exact ⟨r0, a0, a2⟩)
    (first | (go_at_call 39; refine (HA.out _).mono ?_; rintro e w' ⟨rfl, rfl⟩))
  go_wp2_with fail
  go_ret
  exact ⟨rfl, HW.out.trans (((Drawn.drew wa).below _))⟩

/-- How far the answer of the document's Best has come. -/
def RB (f : FS) (A : List Rd) (k : Nat) (best : Rd) (some : Bool) : Prop :=
  (some = false ∧ cting f (A.take k) = [] ∧ best = ⟨0, 0⟩) ∨ (some = true ∧ IsBest f.least (cting f (A.take k)) best)
theorem cting_more (f : FS) (A : List Rd) {k : Nat} (h : k < A.length) : cting f (A.take (k + 1)) = cting f (A.take k) ++ (if cnts f.win f.t (A.getD k Itm.z) then [A.getD k Itm.z] else []) := by
  unfold cting
  rw [List.take_succ_eq_append_getElem h, List.filter_append]
  have e : A.getD k Itm.z = A[k] := by simp [List.getD_eq_getElem?_getD, h]
  rw [e]
  congr 1
  simp [List.filter_cons]
theorem RB.skip {f : FS} {A : List Rd} {k : Nat} {best : Rd} {o : Bool} (h : RB f A k best o) (hk : k < A.length) (hc : cnts f.win f.t (A.getD k Itm.z) = false) : RB f A (k + 1) best o := by
  have e : cting f (A.take (k + 1)) = cting f (A.take k) := by rw [cting_more f A hk, if_neg (by rw [hc]; simp), List.append_nil]
  unfold RB at *; rw [e]; exact h
theorem take_le {A : List Rd} (hs : A.Pairwise fun a b => a.t ≤ b.t) {k : Nat} (hk : k < A.length) : ∀ a ∈ A.take k, a.t ≤ (A.getD k Itm.z).t := by
  intro a ha
  have e : A = A.take k ++ A[k] :: A.drop (k + 1) := by
    rw [← List.drop_eq_getElem_cons hk, List.take_append_drop]
  have e2 : A.getD k Itm.z = A[k] := by simp [List.getD_eq_getElem?_getD, hk]
  rw [e2]
  rw [e] at hs
  exact (List.pairwise_append.1 hs).2.2 a ha _ List.mem_cons_self
theorem RB.take {f : FS} {A : List Rd} {k : Nat} {best : Rd} {o : Bool} (h : RB f A k best o) (hs : A.Pairwise fun a b => a.t ≤ b.t) (hk : k < A.length) (hc : cnts f.win f.t (A.getD k Itm.z) = true) (hb : o = true → bt f.least (A.getD k Itm.z) best = true) : RB f A (k + 1) (A.getD k Itm.z) true := by
  refine .inr ⟨rfl, ?_⟩
  rw [cting_more f A hk, if_pos hc]
  have hle := take_le hs hk
  generalize A.getD k Itm.z = r at *
  have hin : ∀ a ∈ cting f (A.take k), bt f.least r a = true ∧ a.t ≤ r.t := by
    intro a ha
    refine ⟨?_, hle a (List.mem_filter.1 ha).1⟩
    rcases h with ⟨_, e, _⟩ | ⟨e, hB⟩
    · rw [e] at ha; simp at ha
    · exact bt_trans (hb e) (hB.good a ha)
  refine ⟨by simp, fun a ha => ?_, fun a ha _ => ?_⟩
  · rcases List.mem_append.1 ha with ha | ha
    · exact (hin a ha).1
    · rw [List.mem_singleton.1 ha]; exact bt_refl _ _
  · rcases List.mem_append.1 ha with ha | ha
    · exact (hin a ha).2
    · rw [List.mem_singleton.1 ha]; exact Nat.le_refl _
theorem RB.leave {f : FS} {A : List Rd} {k : Nat} {best : Rd} (h : RB f A k best true) (hk : k < A.length) (hc : cnts f.win f.t (A.getD k Itm.z) = true) (hb : ¬ bt f.least (A.getD k Itm.z) best = true) : RB f A (k + 1) best true := by
  rcases h with ⟨e, _⟩ | ⟨_, hB⟩
  · cases e
  · refine .inr ⟨rfl, ?_⟩
    rw [cting_more f A hk, if_pos hc]
    generalize A.getD k Itm.z = r at *
    refine ⟨List.mem_append_left _ hB.mem, fun a ha => ?_, fun a ha e => ?_⟩
    · rcases List.mem_append.1 ha with ha | ha
      · exact hB.good a ha
      · rw [List.mem_singleton.1 ha]; exact bt_total hb
    · rcases List.mem_append.1 ha with ha | ha
      · exact hB.last a ha e
      · rw [List.mem_singleton.1 ha] at e; exact absurd (bt_of_eq e) hb
theorem RB.fin {f : FS} {A : List Rd} {best : Rd} {o : Bool} (h : RB f A A.length best o) (hi : Inv f A) : best = f.best ∧ o = f.some := by
  unfold RB at h
  rw [List.take_length] at h
  rcases hs : f.some
  · obtain ⟨h1, h2⟩ := hi.none hs
    rcases h with ⟨e, _, e2⟩ | ⟨e, hB⟩
    · exact ⟨by rw [h2, e2], e⟩
    · have := hB.mem; rw [h1] at this; simp at this
  · have hB := hi.best hs
    rcases h with ⟨e, e1, e2⟩ | ⟨e, hB2⟩
    · have := hB.mem; rw [e1] at this; simp at this
    · exact ⟨hB2.uniq hB, e⟩
end Go.Proofs.Ythhiljaceobnmaa
