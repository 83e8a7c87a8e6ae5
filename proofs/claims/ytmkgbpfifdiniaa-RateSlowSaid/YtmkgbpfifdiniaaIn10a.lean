/- Rows of acts, and of packets, that came in, as lists, over this translation. -/
import Derived.Test.YtmkgbpfifdiniaaEf
import Derived.Deep.SlicePairs
import Derived.ProofKit
import Derived.OpenShut
set_option linter.unusedVariables false
namespace Go.Proofs.Ytmkgbpfifdiniaa
open Go.ChangeShapes Go.WideShapes Go.ChangeAt Go.RowKit

/-- A slice of packets that came in. -/
def InPks (w : World) (v : Option Addr) (len cap : Nat) (l : List Pk) : Prop := l.length = len ∧ len ≤ cap ∧ cap ≤ 9223372036854775807 ∧ Its w v l ∧ ∀ x ∈ l, x.u64

set_option maxRecDepth 100000 in
theorem in_pks {H : Type} {enc : TypeId × Value → H} {w : World} {fuel : Nat} {spare : Nat → Bool} {held : Bool} {v : Option Addr} {len cap : Nat} {x : DataW H × List MemPlace}
    (h : DataW.trod enc Try.prog w 0 spare held fuel 28 [.slice v len cap] = some x) : ∃ l, InPks w v len cap l := by
  rcases Go.Deep.open_slice Try.underlying28 h with ⟨hcs, _⟩ | ⟨a, len', cap', m, n, D, Pl, hcs, _, hl, hm, hmm, _, hi⟩
  · simp only [List.cons.injEq, Value.slice.injEq, and_true] at hcs
    obtain ⟨rfl, rfl, rfl⟩ := hcs
    exact ⟨[], rfl, Nat.le_refl _, by omega, Its.none _ _, fun r hr => by cases hr⟩
  · simp only [List.cons.injEq, Value.slice.injEq, and_true] at hcs
    obtain ⟨rfl, rfl, rfl⟩ := hcs
    have hlm : len ≤ m := by rw [hmm]; split <;> omega
    have ce : Try.prog.cellsOf 42 = 7 := by kernel_rfl
    have cst : Try.prog.cellsOf 32 = 5 := by kernel_rfl
    have c0 : Try.prog.cellsOf 4 = 1 := by kernel_rfl
    have c1 : Try.prog.cellsOf 27 = 1 := by kernel_rfl
    unfold maxLen at hm
    have each : ∀ i, i < len → ∃ q : Pk, (∀ j, j < 7 → w.cell? ((a.add (i * 7)).add j) = (Pk.cs q)[j]?) ∧ q.u64 := by
      intro i hlt
      obtain ⟨cs', h1, h2⟩ := hi i (by omega)
      rw [ce] at h1
      obtain ⟨_, hlen, hcell⟩ := World.cells?_some h1
      obtain ⟨xs, k, _, _, _, hxl, hf⟩ := DataW.trod_struct Try.underlying42 h2
      match cs', hlen with
      | [v0, v1, v2, v3, v4, v5, v6], _ =>
        have g0 := hf 0 _ rfl
        have g1 := hf 1 _ rfl
        have g2 := hf 2 _ rfl
        have hx0 : xs[0]? = some (xs[0]'(by rw [hxl]; decide)) := List.getElem?_eq_getElem _
        have hx1 : xs[1]? = some (xs[1]'(by rw [hxl]; decide)) := List.getElem?_eq_getElem _
        have hx2 : xs[2]? = some (xs[2]'(by rw [hxl]; decide)) := List.getElem?_eq_getElem _
        rw [hx0] at g0
        rw [hx1] at g1
        rw [hx2] at g2
        simp [c1, cst] at g0 g1 g2
        obtain ⟨ys, k', _, _, _, hyl, hf'⟩ := DataW.trod_struct Try.underlying32 g2
        have s0 := hf' 0 _ rfl
        have hy0 : ys[0]? = some (ys[0]'(by rw [hyl]; decide)) := List.getElem?_eq_getElem _
        rw [hy0] at s0
        have s1 := hf' 1 _ rfl
        have hy1 : ys[1]? = some (ys[1]'(by rw [hyl]; decide)) := List.getElem?_eq_getElem _
        rw [hy1] at s1
        have s2 := hf' 2 _ rfl
        have hy2 : ys[2]? = some (ys[2]'(by rw [hyl]; decide)) := List.getElem?_eq_getElem _
        rw [hy2] at s2
        have s3 := hf' 3 _ rfl
        have hy3 : ys[3]? = some (ys[3]'(by rw [hyl]; decide)) := List.getElem?_eq_getElem _
        rw [hy3] at s3
        have s4 := hf' 4 _ rfl
        have hy4 : ys[4]? = some (ys[4]'(by rw [hyl]; decide)) := List.getElem?_eq_getElem _
        rw [hy4] at s4
        simp [c0, c1] at s0 s1 s2 s3 s4
        obtain ⟨z0, hz0, _, hw0⟩ := DataW.trod_int Try.underlying27 g0
        obtain ⟨z1, hz1, _, hw1⟩ := DataW.trod_int Try.underlying27 g1
        obtain ⟨z2, hz2, _, hw2⟩ := DataW.trod_int Try.underlying27 s0
        obtain ⟨z3, hz3, _, hw3⟩ := DataW.trod_int Try.underlying27 s1
        obtain ⟨z4, hz4, _, hw4⟩ := DataW.trod_int Try.underlying27 s2
        obtain ⟨z5, hz5, _, hw5⟩ := DataW.trod_int Try.underlying27 s3
        obtain ⟨z6, hz6, _⟩ := DataW.trod_bool Try.underlying4 s4
        simp only [List.cons.injEq, and_true] at hz0 hz1 hz2 hz3 hz4 hz5 hz6
        subst hz0 hz1 hz2 hz3 hz4 hz5 hz6
        obtain ⟨b0, b0'⟩ := bounds_u64 hw0
        obtain ⟨y0, rfl⟩ := Int.eq_ofNat_of_zero_le b0
        obtain ⟨b1, b1'⟩ := bounds_u64 hw1
        obtain ⟨y1, rfl⟩ := Int.eq_ofNat_of_zero_le b1
        obtain ⟨b2, b2'⟩ := bounds_u64 hw2
        obtain ⟨y2, rfl⟩ := Int.eq_ofNat_of_zero_le b2
        obtain ⟨b3, b3'⟩ := bounds_u64 hw3
        obtain ⟨y3, rfl⟩ := Int.eq_ofNat_of_zero_le b3
        obtain ⟨b4, b4'⟩ := bounds_u64 hw4
        obtain ⟨y4, rfl⟩ := Int.eq_ofNat_of_zero_le b4
        obtain ⟨b5, b5'⟩ := bounds_u64 hw5
        obtain ⟨y5, rfl⟩ := Int.eq_ofNat_of_zero_le b5
        refine ⟨⟨y0, y1, y2, y3, y4, y5, z6⟩, fun j hj => ?_, ⟨by show y0 ≤ _; omega, by show y1 ≤ _; omega, ⟨by show y2 ≤ _; omega, by show y3 ≤ _; omega, by show y4 ≤ _; omega, by show y5 ≤ _; omega⟩⟩⟩
        have := hcell j (by omega)
        rw [this]
        rfl
    obtain ⟨q, hq⟩ := Go.Deep.choose_lt each
    obtain ⟨b, off, spot⟩ := a
    have e : ∀ i, i < len → ((List.range len).map q).getD i Itm.z = q i := fun i hlt => by simp [List.getD_eq_getElem?_getD, hlt]
    refine ⟨(List.range len).map q, by simp, hl, by omega, fun hpos => ?_, fun r hr => ?_⟩
    · have hpos' : 0 < len := by simpa using hpos
      have h0 : w.cell? _ = some (.int .u64 ((q 0).n : Int)) := (hq 0 hpos').1 0 (by omega)
      have hs : spot = none := by simpa [Addr.add] using World.cell?_spot h0
      subst hs
      refine ⟨b, off, rfl, by have := World.block_lt_of_cell? _ _ h0; simpa [Addr.add] using this, fun i j hi hj => ?_⟩
      have hi' : i < len := by simpa using hi
      have k7 : Itm.k Pk = 7 := rfl
      rw [k7] at hj ⊢
      rw [e i hi']
      have := (hq i hi').1 j hj
      rw [Go.Deep.add_add, Go.WideShapes.add_plain] at this
      exact this
    · obtain ⟨i, hi, rfl⟩ := List.mem_map.1 hr
      exact (hq i (by simpa using hi)).2
end Go.Proofs.Ytmkgbpfifdiniaa
