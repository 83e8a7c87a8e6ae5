/- A row of acts that came in, as a list: a law that holds of all lists holds of every argument. -/
import Derived.Test.YthhiljaceobnmaaRl
import Derived.Deep.SlicePairs
import Derived.ProofKit
import Derived.OpenShut
set_option linter.unusedVariables false
namespace Go.Proofs.Ythhiljaceobnmaa
open Go.ChangeShapes Go.WideShapes Go.ChangeAt Go.RowKit

/-- The acts that came in: whether it is Put, its time, its number. -/
def Acts5 (w : World) (b off : Nat) (l : List (Bool × Nat × Nat)) : Prop :=
  ∀ i, i < l.length → w.cell? ⟨b, off + i * 3, none⟩ = some (.bool (l.getD i (false, 0, 0)).1) ∧ w.cell? ⟨b, off + i * 3 + 1, none⟩ = some (.int .u64 ((l.getD i (false, 0, 0)).2.1 : Int)) ∧ w.cell? ⟨b, off + i * 3 + 2, none⟩ = some (.int .u64 ((l.getD i (false, 0, 0)).2.2 : Int)) ∧ (l.getD i (false, 0, 0)).2.1 ≤ 18446744073709551615 ∧ (l.getD i (false, 0, 0)).2.2 ≤ 18446744073709551615
def InActs5 (w : World) (v : Option Addr) (len : Nat) (l : List (Bool × Nat × Nat)) (b off : Nat) : Prop :=
  l.length = len ∧ len ≤ 9223372036854775807 ∧ (0 < len → v = some ⟨b, off, none⟩ ∧ b < w.heap.size) ∧ Acts5 w b off l

theorem in_acts5 {H : Type} {enc : TypeId × Value → H} {w : World} {fuel : Nat} {spare : Nat → Bool} {held : Bool} {v : Option Addr} {len cap : Nat} {x : DataW H × List MemPlace}
    (h : DataW.trod enc Try.prog w 0 spare held fuel 23 [.slice v len cap] = some x) : ∃ l b off, InActs5 w v len l b off := by
  rcases Go.Deep.open_slice Try.underlying23 h with ⟨hcs, _⟩ | ⟨a, len', cap', m, n, D, Pl, hcs, _, hl, hm, hmm, _, hi⟩
  · simp only [List.cons.injEq, Value.slice.injEq, and_true] at hcs
    obtain ⟨rfl, rfl, rfl⟩ := hcs
    exact ⟨[], 0, 0, rfl, by omega, fun h => absurd h (by omega), fun i hi => absurd hi (by simp)⟩
  · simp only [List.cons.injEq, Value.slice.injEq, and_true] at hcs
    obtain ⟨rfl, rfl, rfl⟩ := hcs
    have hlm : len ≤ m := by rw [hmm]; split <;> omega
    have ce : Try.prog.cellsOf 29 = 3 := by kernel_rfl
    have c0 : Try.prog.cellsOf 4 = 1 := by kernel_rfl
    have c1 : Try.prog.cellsOf 22 = 1 := by kernel_rfl
    unfold maxLen at hm
    have each : ∀ i, i < len → ∃ q : Bool × Nat × Nat, w.cell? (a.add (i * 3)) = some (.bool q.1) ∧ w.cell? (a.add (i * 3 + 1)) = some (.int .u64 (q.2.1 : Int)) ∧ w.cell? (a.add (i * 3 + 2)) = some (.int .u64 (q.2.2 : Int)) ∧ q.2.1 ≤ 18446744073709551615 ∧ q.2.2 ≤ 18446744073709551615 := by
      intro i hlt
      obtain ⟨cs', h1, h2⟩ := hi i (by omega)
      rw [ce] at h1
      obtain ⟨_, hlen, hcell⟩ := World.cells?_some h1
      obtain ⟨xs, k, _, _, _, hxl, hf⟩ := DataW.trod_struct Try.underlying29 h2
      match cs', hlen with
      | [v0, v1, v2], _ =>
        have g0 := hf 0 _ rfl
        have g1 := hf 1 _ rfl
        have g2 := hf 2 _ rfl
        have hx0 : xs[0]? = some (xs[0]'(by rw [hxl]; decide)) := List.getElem?_eq_getElem _
        have hx1 : xs[1]? = some (xs[1]'(by rw [hxl]; decide)) := List.getElem?_eq_getElem _
        have hx2 : xs[2]? = some (xs[2]'(by rw [hxl]; decide)) := List.getElem?_eq_getElem _
        rw [hx0] at g0
        rw [hx1] at g1
        rw [hx2] at g2
        simp [c0, c1] at g0 g1 g2
        obtain ⟨z0, hz0, _⟩ := DataW.trod_bool Try.underlying4 g0
        obtain ⟨z1, hz1, _, hw1⟩ := DataW.trod_int Try.underlying22 g1
        obtain ⟨z2, hz2, _, hw2⟩ := DataW.trod_int Try.underlying22 g2
        simp only [List.cons.injEq, and_true] at hz0 hz1 hz2
        subst hz0 hz1 hz2
        have e0 := hcell 0 (by omega)
        have e1 := hcell 1 (by omega)
        have e2 := hcell 2 (by omega)
        rw [Go.Deep.add_add] at e0 e1 e2
        obtain ⟨b1, b1'⟩ := bounds_u64 hw1
        obtain ⟨b2, b2'⟩ := bounds_u64 hw2
        refine ⟨(z0, z1.toNat, z2.toNat), ?_, ?_, ?_, by dsimp; omega, by dsimp; omega⟩
        · simpa using e0
        · dsimp; rw [Int.toNat_of_nonneg b1]; simpa using e1
        · dsimp; rw [Int.toNat_of_nonneg b2]; simpa using e2
    obtain ⟨q, hq⟩ := Go.Deep.choose_lt each
    obtain ⟨b, off, spot⟩ := a
    refine ⟨(List.range len).map q, b, off, by simp, by omega, fun hpos => ?_, fun i hlt => ?_⟩
    · have h0 := (hq 0 hpos).1
      have hs : spot = none := by simpa [Addr.add] using World.cell?_spot h0
      subst hs
      exact ⟨rfl, by have := World.block_lt_of_cell? _ _ h0; simpa [Addr.add] using this⟩
    · simp only [List.length_map, List.length_range] at hlt
      have h0 := (hq 0 (by omega)).1
      have hs : spot = none := by simpa [Addr.add] using World.cell?_spot h0
      subst hs
      have e : ((List.range len).map q).getD i (false, 0, 0) = q i := by simp [List.getD_eq_getElem?_getD, hlt]
      rw [e]
      obtain ⟨a0, a1, a2, a3⟩ := hq i hlt
      rw [Go.WideShapes.add_plain] at a0 a1 a2
      exact ⟨a0, a1, a2, a3⟩
end Go.Proofs.Ythhiljaceobnmaa
