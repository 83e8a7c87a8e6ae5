/- A slice of structs that came in ([]goitlaw20.Act), as a list, over this translation. -/
import Derived.Test.YtlhgiboajnhahaaJo
import Derived.Deep.SlicePairs
import Derived.ProofKit
import Derived.OpenShut
set_option linter.unusedVariables false
namespace Go.Proofs.Ytlhgiboajnhahaa
open Go.ChangeShapes Go.WideShapes Go.ChangeAt Go.RowKit

structure Act20 where
  out : Bool
  now : Nat
  ch : Nat
instance : Inhabited Act20 := ⟨⟨false, 0, 0⟩⟩
structure Act20At (w : World) (b o : Nat) (q : Act20) : Prop where
  k0 : w.cell? ⟨b, o, none⟩ = some (.bool q.out)
  k1 : w.cell? ⟨b, o + 1, none⟩ = some (.int .u64 (q.now : Int))
  k2 : w.cell? ⟨b, o + 2, none⟩ = some (.int .u64 (q.ch : Int))
  b1 : q.now ≤ 18446744073709551615
  b2 : q.ch ≤ 18446744073709551615
theorem Act20At.keep {w w' : World} {b o : Nat} {q : Act20} (h : Act20At w b o q) (hb : b < w.heap.size) (k : Below w.heap.size w w') : Act20At w' b o q :=
  ⟨(k.cell (p := ⟨b, _, none⟩) hb).trans h.k0, (k.cell (p := ⟨b, _, none⟩) hb).trans h.k1, (k.cell (p := ⟨b, _, none⟩) hb).trans h.k2, h.b1, h.b2⟩
def InAct20 (w : World) (v : Option Addr) (l : List Act20) (b off : Nat) : Prop :=
  l.length ≤ 9223372036854775807 ∧ (0 < l.length → v = some ⟨b, off, none⟩ ∧ b < w.heap.size) ∧ ∀ i, i < l.length → Act20At w b (off + i * 3) (l.getD i default)

set_option maxRecDepth 100000 in
set_option maxHeartbeats 1000000 in
theorem in_act20 {H : Type} {enc : TypeId × Value → H} {w : World} {fuel : Nat} {spare : Nat → Bool} {held : Bool} {v : Option Addr} {len cap : Nat} {x : DataW H × List MemPlace}
    (h : DataW.trod enc Try.prog w 0 spare held fuel 23 [.slice v len cap] = some x) : ∃ l b off, l.length = len ∧ InAct20 w v l b off := by
  rcases Go.Deep.open_slice Try.underlying23 h with ⟨hcs, _⟩ | ⟨a, len', cap', m, n, D, Pl, hcs, _, hl, hm, hmm, _, hi⟩
  · simp only [List.cons.injEq, Value.slice.injEq, and_true] at hcs
    obtain ⟨rfl, rfl, rfl⟩ := hcs
    exact ⟨[], 0, 0, rfl, by simp, fun h => absurd h (by simp), fun i hi => absurd hi (by simp)⟩
  · simp only [List.cons.injEq, Value.slice.injEq, and_true] at hcs
    obtain ⟨rfl, rfl, rfl⟩ := hcs
    have hlm : len ≤ m := by rw [hmm]; split <;> omega
    have ce : Try.prog.cellsOf 32 = 3 := by kernel_rfl
    have c0 : Try.prog.cellsOf 4 = 1 := by kernel_rfl
    have c1 : Try.prog.cellsOf 22 = 1 := by kernel_rfl
    unfold maxLen at hm
    obtain ⟨b, off, spot⟩ := a
    have hs0 : 0 < len → spot = none := by
      intro hpos
      obtain ⟨cs', h1, _⟩ := hi 0 (by omega)
      rw [ce] at h1
      obtain ⟨_, hlen, hcell⟩ := World.cells?_some h1
      match cs', hlen with
      | [v0, v1, v2], _ =>
        have e0 := hcell 0 (by omega)
        rw [Go.Deep.add_add] at e0
        simpa [Addr.add] using World.cell?_spot e0
    have each : ∀ i, i < len → ∃ q : Act20, spot = none ∧ b < w.heap.size ∧ Act20At w b (off + i * 3) q := by
      intro i hlt
      obtain ⟨cs', h1, h2⟩ := hi i (by omega)
      rw [ce] at h1
      obtain ⟨_, hlen, hcell⟩ := World.cells?_some h1
      match cs', hlen with
      | [v0, v1, v2], _ =>
        obtain ⟨xs0, k0, _, _, _, hxl0, hf0⟩ := DataW.trod_struct Try.underlying32 h2
        have g0_0 := hf0 0 _ rfl
        have hx0_0 : xs0[0]? = some (xs0[0]'(by rw [hxl0]; decide)) := List.getElem?_eq_getElem _
        rw [hx0_0] at g0_0
        simp [c0] at g0_0
        have g0_1 := hf0 1 _ rfl
        have hx0_1 : xs0[1]? = some (xs0[1]'(by rw [hxl0]; decide)) := List.getElem?_eq_getElem _
        rw [hx0_1] at g0_1
        simp [c1] at g0_1
        have g0_2 := hf0 2 _ rfl
        have hx0_2 : xs0[2]? = some (xs0[2]'(by rw [hxl0]; decide)) := List.getElem?_eq_getElem _
        rw [hx0_2] at g0_2
        simp [c1] at g0_2
        obtain ⟨z0, hz0, _⟩ := DataW.trod_bool Try.underlying4 g0_0
        simp only [List.cons.injEq, and_true] at hz0
        subst hz0
        obtain ⟨z1, hz1, _, hw1⟩ := DataW.trod_int Try.underlying22 g0_1
        obtain ⟨b1, b1'⟩ := bounds_u64 hw1
        simp only [List.cons.injEq, and_true] at hz1
        subst hz1
        obtain ⟨z2, hz2, _, hw2⟩ := DataW.trod_int Try.underlying22 g0_2
        obtain ⟨b2, b2'⟩ := bounds_u64 hw2
        simp only [List.cons.injEq, and_true] at hz2
        subst hz2
        have e0 := hcell 0 (by omega)
        have e1 := hcell 1 (by omega)
        have e2 := hcell 2 (by omega)
        rw [Go.Deep.add_add] at e0 e1 e2
        have hs := hs0 (by omega)
        subst hs
        rw [Go.WideShapes.add_plain] at e0 e1 e2
        refine ⟨⟨z0, z1.toNat, z2.toNat⟩, rfl, World.block_lt_of_cell? _ _ e0, ⟨?_, ?_, ?_, by dsimp; omega, by dsimp; omega⟩⟩
        · dsimp; simpa [Nat.add_assoc] using e0
        · dsimp; rw [Int.toNat_of_nonneg b1]; simpa [Nat.add_assoc] using e1
        · dsimp; rw [Int.toNat_of_nonneg b2]; simpa [Nat.add_assoc] using e2
    obtain ⟨q, hq⟩ := Go.Deep.choose_lt each
    refine ⟨(List.range len).map q, b, off, by simp, by simp; omega, fun hpos => ?_, fun i hlt => ?_⟩
    · have hpos' : 0 < len := by simpa using hpos
      obtain ⟨rfl, h2, _⟩ := hq 0 hpos'
      exact ⟨rfl, h2⟩
    · simp only [List.length_map, List.length_range] at hlt
      have e : ((List.range len).map q).getD i default = q i := by simp [List.getD_eq_getElem?_getD, hlt]
      rw [e]
      exact (hq i hlt).2.2
end Go.Proofs.Ytlhgiboajnhahaa
