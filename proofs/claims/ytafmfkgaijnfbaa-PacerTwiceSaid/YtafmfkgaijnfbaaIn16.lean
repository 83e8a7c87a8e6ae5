/- A slice of structs that came in ([]goitlaw16.Act), as a list, over this translation. -/
import Derived.Test.YtafmfkgaijnfbaaPb
import Derived.Deep.SlicePairs
import Derived.ProofKit
import Derived.OpenShut
set_option linter.unusedVariables false
namespace Go.Proofs.Ytafmfkgaijnfbaa
open Go.ChangeShapes Go.WideShapes Go.ChangeAt Go.RowKit

structure Act16 where
  k : Nat
  n : Nat
  r : Nat
  q : Nat
  x : Nat
instance : Inhabited Act16 := ⟨⟨0, 0, 0, 0, 0⟩⟩
structure Act16At (w : World) (b o : Nat) (q : Act16) : Prop where
  k0 : w.cell? ⟨b, o, none⟩ = some (.int .u8 (q.k : Int))
  k1 : w.cell? ⟨b, o + 1, none⟩ = some (.int .u64 (q.n : Int))
  k2 : w.cell? ⟨b, o + 2, none⟩ = some (.int .u64 (q.r : Int))
  k3 : w.cell? ⟨b, o + 3, none⟩ = some (.int .u64 (q.q : Int))
  k4 : w.cell? ⟨b, o + 4, none⟩ = some (.int .u64 (q.x : Int))
  b0 : q.k ≤ 255
  b1 : q.n ≤ 18446744073709551615
  b2 : q.r ≤ 18446744073709551615
  b3 : q.q ≤ 18446744073709551615
  b4 : q.x ≤ 18446744073709551615
theorem Act16At.keep {w w' : World} {b o : Nat} {q : Act16} (h : Act16At w b o q) (hb : b < w.heap.size) (k : Below w.heap.size w w') : Act16At w' b o q :=
  ⟨(k.cell (p := ⟨b, _, none⟩) hb).trans h.k0, (k.cell (p := ⟨b, _, none⟩) hb).trans h.k1, (k.cell (p := ⟨b, _, none⟩) hb).trans h.k2, (k.cell (p := ⟨b, _, none⟩) hb).trans h.k3, (k.cell (p := ⟨b, _, none⟩) hb).trans h.k4, h.b0, h.b1, h.b2, h.b3, h.b4⟩
def InAct16 (w : World) (v : Option Addr) (l : List Act16) (b off : Nat) : Prop :=
  l.length ≤ 9223372036854775807 ∧ (0 < l.length → v = some ⟨b, off, none⟩ ∧ b < w.heap.size) ∧ ∀ i, i < l.length → Act16At w b (off + i * 5) (l.getD i default)

set_option maxRecDepth 100000 in
set_option maxHeartbeats 1000000 in
theorem in_act16 {H : Type} {enc : TypeId × Value → H} {w : World} {fuel : Nat} {spare : Nat → Bool} {held : Bool} {v : Option Addr} {len cap : Nat} {x : DataW H × List MemPlace}
    (h : DataW.trod enc Try.prog w 0 spare held fuel 22 [.slice v len cap] = some x) : ∃ l b off, l.length = len ∧ InAct16 w v l b off := by
  rcases Go.Deep.open_slice Try.underlying22 h with ⟨hcs, _⟩ | ⟨a, len', cap', m, n, D, Pl, hcs, _, hl, hm, hmm, _, hi⟩
  · simp only [List.cons.injEq, Value.slice.injEq, and_true] at hcs
    obtain ⟨rfl, rfl, rfl⟩ := hcs
    exact ⟨[], 0, 0, rfl, by simp, fun h => absurd h (by simp), fun i hi => absurd hi (by simp)⟩
  · simp only [List.cons.injEq, Value.slice.injEq, and_true] at hcs
    obtain ⟨rfl, rfl, rfl⟩ := hcs
    have hlm : len ≤ m := by rw [hmm]; split <;> omega
    have ce : Try.prog.cellsOf 31 = 5 := by kernel_rfl
    have c0 : Try.prog.cellsOf 5 = 1 := by kernel_rfl
    have c1 : Try.prog.cellsOf 23 = 1 := by kernel_rfl
    unfold maxLen at hm
    obtain ⟨b, off, spot⟩ := a
    have hs0 : 0 < len → spot = none := by
      intro hpos
      obtain ⟨cs', h1, _⟩ := hi 0 (by omega)
      rw [ce] at h1
      obtain ⟨_, hlen, hcell⟩ := World.cells?_some h1
      match cs', hlen with
      | [v0, v1, v2, v3, v4], _ =>
        have e0 := hcell 0 (by omega)
        rw [Go.Deep.add_add] at e0
        simpa [Addr.add] using World.cell?_spot e0
    have each : ∀ i, i < len → ∃ q : Act16, spot = none ∧ b < w.heap.size ∧ Act16At w b (off + i * 5) q := by
      intro i hlt
      obtain ⟨cs', h1, h2⟩ := hi i (by omega)
      rw [ce] at h1
      obtain ⟨_, hlen, hcell⟩ := World.cells?_some h1
      match cs', hlen with
      | [v0, v1, v2, v3, v4], _ =>
        obtain ⟨xs0, k0, _, _, _, hxl0, hf0⟩ := DataW.trod_struct Try.underlying31 h2
        have g0_0 := hf0 0 _ rfl
        have hx0_0 : xs0[0]? = some (xs0[0]'(by rw [hxl0]; decide)) := List.getElem?_eq_getElem _
        rw [hx0_0] at g0_0
        simp [c0] at g0_0
        have g0_1 := hf0 1 _ rfl
        have hx0_1 : xs0[1]? = some (xs0[1]'(by rw [hxl0]; decide)) := List.getElem?_eq_getElem _
        rw [hx0_1] at g0_1
        simp [c1] at g0_1
        have g0_2 := hf0 2 _ rfl
        have hx0_2 : xs0[2]? = some (xs0[2]'(by rw [hxl0]; decide)) := List.getElem?_eq_getElem _
        rw [hx0_2] at g0_2
        simp [c1] at g0_2
        have g0_3 := hf0 3 _ rfl
        have hx0_3 : xs0[3]? = some (xs0[3]'(by rw [hxl0]; decide)) := List.getElem?_eq_getElem _
        rw [hx0_3] at g0_3
        simp [c1] at g0_3
        have g0_4 := hf0 4 _ rfl
        have hx0_4 : xs0[4]? = some (xs0[4]'(by rw [hxl0]; decide)) := List.getElem?_eq_getElem _
        rw [hx0_4] at g0_4
        simp [c1] at g0_4
        obtain ⟨z0, hz0, _, hw0⟩ := DataW.trod_int Try.underlying5 g0_0
        obtain ⟨b0, b0'⟩ := bounds_u8 hw0
        simp only [List.cons.injEq, and_true] at hz0
        subst hz0
        obtain ⟨z1, hz1, _, hw1⟩ := DataW.trod_int Try.underlying23 g0_1
        obtain ⟨b1, b1'⟩ := bounds_u64 hw1
        simp only [List.cons.injEq, and_true] at hz1
        subst hz1
        obtain ⟨z2, hz2, _, hw2⟩ := DataW.trod_int Try.underlying23 g0_2
        obtain ⟨b2, b2'⟩ := bounds_u64 hw2
        simp only [List.cons.injEq, and_true] at hz2
        subst hz2
        obtain ⟨z3, hz3, _, hw3⟩ := DataW.trod_int Try.underlying23 g0_3
        obtain ⟨b3, b3'⟩ := bounds_u64 hw3
        simp only [List.cons.injEq, and_true] at hz3
        subst hz3
        obtain ⟨z4, hz4, _, hw4⟩ := DataW.trod_int Try.underlying23 g0_4
        obtain ⟨b4, b4'⟩ := bounds_u64 hw4
        simp only [List.cons.injEq, and_true] at hz4
        subst hz4
        have e0 := hcell 0 (by omega)
        have e1 := hcell 1 (by omega)
        have e2 := hcell 2 (by omega)
        have e3 := hcell 3 (by omega)
        have e4 := hcell 4 (by omega)
        rw [Go.Deep.add_add] at e0 e1 e2 e3 e4
        have hs := hs0 (by omega)
        subst hs
        rw [Go.WideShapes.add_plain] at e0 e1 e2 e3 e4
        refine ⟨⟨z0.toNat, z1.toNat, z2.toNat, z3.toNat, z4.toNat⟩, rfl, World.block_lt_of_cell? _ _ e0, ⟨?_, ?_, ?_, ?_, ?_, by dsimp; omega, by dsimp; omega, by dsimp; omega, by dsimp; omega, by dsimp; omega⟩⟩
        · dsimp; rw [Int.toNat_of_nonneg b0]; simpa [Nat.add_assoc] using e0
        · dsimp; rw [Int.toNat_of_nonneg b1]; simpa [Nat.add_assoc] using e1
        · dsimp; rw [Int.toNat_of_nonneg b2]; simpa [Nat.add_assoc] using e2
        · dsimp; rw [Int.toNat_of_nonneg b3]; simpa [Nat.add_assoc] using e3
        · dsimp; rw [Int.toNat_of_nonneg b4]; simpa [Nat.add_assoc] using e4
    obtain ⟨q, hq⟩ := Go.Deep.choose_lt each
    refine ⟨(List.range len).map q, b, off, by simp, by simp; omega, fun hpos => ?_, fun i hlt => ?_⟩
    · have hpos' : 0 < len := by simpa using hpos
      obtain ⟨rfl, h2, _⟩ := hq 0 hpos'
      exact ⟨rfl, h2⟩
    · simp only [List.length_map, List.length_range] at hlt
      have e : ((List.range len).map q).getD i default = q i := by simp [List.getD_eq_getElem?_getD, hlt]
      rw [e]
      exact (hq i hlt).2.2
end Go.Proofs.Ytafmfkgaijnfbaa
