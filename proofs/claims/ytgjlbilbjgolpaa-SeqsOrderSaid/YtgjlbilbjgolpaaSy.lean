/- Put and All of a set of one block at most, over this translation. -/
import Derived.Test.YtgjlbilbjgolpaaSx
import Derived.Deep.RegionWith
set_option linter.unusedVariables false
namespace Go.Proofs.Ytgjlbilbjgolpaa
open Go.RowKit

theorem RR.cell1 {w : World} {T : TypeId} {g n cap : Nat} {rv : Value} (h : w.ownsRow 0 T 1 (.slice (some ⟨g, 0, none⟩) n cap) 1 [rv]) : w.cell? ⟨g, 0, none⟩ = some rv := by
  simpa [Addr.add] using h.cells (g := g) rfl 0 _ rfl

/-- A set's blocks, put together: its ranges. -/
theorem rows_con {w : World} {v : Value} {L : List Rn} {X : List Nat} (h : Rows w v L X) (hm : L.length ≤ 1000) : Calls Try.prog 16 #[v] w (NewRow w L) := by
  rcases h with ⟨rfl, p, cap, rfl, ho⟩ | ⟨hp, g, cap, rg, rc, rfl, ho, hr, hx⟩
  · exact concat_none p cap w
  · have hc := RR.cell1 ho
    exact concat_one g 0 cap _ rc L w (World.block_lt_of_cell? _ _ hc) hc hr.its hp hm
theorem rows_rep {w : World} {v : Value} {L : List Rn} {X : List Nat} (h : Rows w v L X) (b : Nat) (rv : Value) (hb : w.cell? ⟨b, 0, none⟩ = some rv) (h1 : rv.oneCell' = true) :
    Calls Try.prog 19 #[v, .int .i64 0, .int .i64 (cntN L : Int), .slice (some ⟨b, 0, none⟩) 1 1] w (OneRow w v rv) := by
  rcases h with ⟨rfl, p, cap, rfl, ho⟩ | ⟨hp, g, cap, rg, rc, rfl, ho, hr, hx⟩
  · have e : cntN [] = 0 := rfl
    rw [e]
    exact replace_none p cap b rv w ho hb h1
  · have e : cntN L = 1 := by unfold cntN; rw [if_neg (by rintro rfl; simp at hp)]
    rw [e]
    exact replace_one g cap b _ rv w ho hb h1

theorem set_All (b : Nat) (X : List Nat) (L : List Rn) (w : World) (h : SetAt w b X L) (hm : L.length ≤ 1000) :
    Calls Try.prog 8 #[.pointer (some ⟨b, 0, none⟩)] w (NewRow w L) := by
  obtain ⟨v, hb, hx, hv, hr⟩ := h
  have hcon := rows_con hr hm
  have HC := Lib.hid hcon
  have h0 := hb.cell (i := 0) rfl
  clear hb hr hv hcon
  go_enter Try.func8, Try.ntmps8
  go_wp2_with fail
  refine (HC.out).mono ?_
  rintro e w' ⟨u, rfl, k1, k2, k3⟩
  have H1 := Lib.hid k1
  have H2 := Lib.hid k2
  have H3 := Lib.hid k3
  clear k1 k2 k3
  go_wp2
  go_ret
  exact ⟨u, rfl, H1.out, H2.out, H3.out⟩

theorem set_New (w : World) : Calls Try.prog 6 #[] w fun e w' => e = .returned (.pointer (some ⟨w.heap.size, 0, none⟩)) ∧ SetAt w' w.heap.size [w.heap.size] [] ∧ Below w.heap.size w w' := by
  go_enter Try.func6, Try.ntmps6
  go_wp2
  go_ret
  exact ⟨rfl, ⟨_, Blk.new _ _ _, List.mem_cons_self, (fun g h => by cases h), .inl ⟨rfl, none, 0, rfl, World.ownsRow_nil _ _ _ _⟩⟩, (Below.refl _ _).alloc (Nat.le_refl _) _⟩

set_option maxHeartbeats 1000000 in
theorem put_wrong (b : Nat) (l : List Rn) (p : Option Addr) (c : Nat) (w : World) (hl : Its w p l) (hp : 0 < l.length) (hk : l.length ≤ 1000) (ho : l.all okB = false) :
    Calls Try.prog 7 #[.pointer (some ⟨b, 0, none⟩), .slice p l.length c] w fun e w' => e = .returned (.int .i64 1) ∧ Below w.heap.size w w' := by
  obtain ⟨ad, rfl, _⟩ := hl.cells hp
  obtain ⟨g, off, rfl, hg, _⟩ := its_two hl hp
  have hc := contains_any l g off c w hl hp hk
  rw [ho] at hc
  have HC := Lib.hid hc
  clear hc hl
  go_enter Try.func7, Try.ntmps7
  go_wp2_with fail
  refine (HC.out).mono ?_
  rintro e w' ⟨rfl, hw⟩
  have HW := Lib.hid hw
  clear hw
  go_wp2
  go_ret
  exact ⟨rfl, HW.out⟩

/-- What Put leaves. -/
def PutPost (w : World) (b : Nat) (X : List Nat) (L l : List Rn) (e : Ending) (w' : World) : Prop :=
  e = .returned (.int .i64 0) ∧ ∃ X' L', SetAt w' b X' L' ∧ Puts L l L' ∧ Fr w w' X ∧ ∀ x ∈ X', x ∈ X ∨ w.heap.size ≤ x

theorem put_end {w W w' : World} {b rt g ct cap : Nat} {X : List Nat} {L l D : List Rn} {v : Value} (hb : Blk w b 40 #[v]) (hx : b ∈ X) (hv : InX v X) (hr : Rows w v L X) (hB : Below w.heap.size w W)
    (hrr : RR W (.slice (some ⟨rt, 0, none⟩) (tog D).length ct) (tog D)) (hrt : w.heap.size ≤ rt) (hpos : 0 < (tog D).length) (hP : Puts L l (tog D))
    (ho : w'.ownsRow 0 22 1 (.slice (some ⟨g, 0, none⟩) 1 cap) 1 [.slice (some ⟨rt, 0, none⟩) (tog D).length ct]) (hg : W.grownBy w' v.ownBlock) (hat : some g = v.ownBlock ∨ g = W.heap.size) :
    PutPost w b X L l (.returned (.int .i64 0)) (w'.setCell ⟨b, 0, none⟩ (.slice (some ⟨g, 0, none⟩) 1 cap)) := by
  have hvl : ∀ k, v.ownBlock = some k → k < w.heap.size := by
    intro k e
    rcases hr with ⟨rfl, p, cap, rfl, ho⟩ | ⟨hp, g, cap, rg, rc, rfl, ho, hr, hx⟩
    · exact (ho.lt k e).2
    · exact (ho.lt k e).2
  have hvb : ∀ k, v.ownBlock = some k → k ≠ b := by
    intro k e
    rcases hr with ⟨rfl, p, cap, rfl, ho⟩ | ⟨hp, g, cap, rg, rc, rfl, ho, hr, hx⟩
    · rcases ho.2 with ⟨e1, _⟩ | ⟨g', cap', cur, e1, _, hg', _⟩
      · rw [e1] at e; simp [Value.ownBlock] at e
      · rw [e1] at e; simp [Value.ownBlock] at e; subst e
        exact Blk.ty (T := 22) hg' hb (by decide)
    · rcases ho.2 with ⟨e1, _⟩ | ⟨g', cap', cur, e1, _, hg', _⟩
      · cases e1
      · rw [e1] at e; simp [Value.ownBlock] at e; subst e
        exact Blk.ty (T := 22) hg' hb (by decide)
  have hbW := hb.below hB hb.lt
  have hgb : g ≠ b := by
    rcases hat with k | k
    · exact hvb g k.symm
    · have := hbW.lt; omega
  have hbw' : Blk w' b 40 #[v] := hbW.grown hg (by
    intro e
    exact hvb b e.symm rfl)
  have hrtl : rt < W.heap.size := (World.ownsRow.lt hrr rt rfl).2
  have hrw' : RR w' (.slice (some ⟨rt, 0, none⟩) (tog D).length ct) (tog D) := hrr.same fun k cs e hk => hg.block k hk.lt (by
    intro e2
    have := hvl k e2.symm
    simp [Value.ownBlock] at e
    omega)
  have hsz : W.heap.size ≤ w'.heap.size := hg.size
  have hoth : ∀ k, k ≠ b → (w'.setCell ⟨b, 0, none⟩ (.slice (some ⟨g, 0, none⟩) 1 cap)).heap[k]? = w'.heap[k]? := fun k hk => Below.heap_setCell _ _ _ _ hk
  refine ⟨rfl, [b, g, rt], tog D, ⟨_, hbw'.set 0 _, List.mem_cons_self, fun k e => ?_, .inr ⟨hpos, g, cap, rt, ct, rfl, ?_, ?_, by simp⟩⟩, hP, ⟨hg.os.trans hB.os, hg.tape.trans hB.tape, hg.output.trans hB.output, ?_, fun k hk hkX => ?_⟩, ?_⟩
  · simp [Value.ownBlock] at e; simp [e]
  · exact own1_keep ho fun k cs e hk => hoth k (by simp [Value.ownBlock] at e; omega)
  · exact hrw'.same fun k cs e hk => hoth k (by have := hb.lt; simp [Value.ownBlock] at e; omega)
  · have := hB.size; simp [World.setCell]; omega
  · have hkb : k ≠ b := fun e => hkX (e ▸ hx)
    rw [hoth k hkb, hg.block k (by have := hB.size; omega) (fun e => hkX (hv k e.symm)), hB.block k hk]
  · intro x hx'
    simp at hx'
    rcases hx' with rfl | rfl | rfl
    · exact .inl hx
    · rcases hat with k | k
      · exact .inl (hv _ k.symm)
      · right; have := hB.size; omega
    · exact .inr hrt
end Go.Proofs.Ytgjlbilbjgolpaa
