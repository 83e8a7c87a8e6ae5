/- A signal by value that came in. -/
import Derived.Test.YtkgdfbiokgggmaaMoa
import Derived.Deep.Fields
import Derived.ProofKit
import Derived.OpenShut
set_option linter.unusedVariables false
namespace Go.Proofs.Ytkgdfbiokgggmaa
open Go.ChangeShapes Go.WideShapes Go.ChangeAt Go.RowKit

theorem in_sig {H : Type} {enc : TypeId × Value → H} {w : World} {base b0 : Nat} {r : Reach} {spare : Nat → Bool} {held : Bool} {v : Value} {d : DataW H} {p : List MemPlace}
    (hv : Value.okWide Try.prog w r b0 25 v) (h : DataW.Trod enc Try.prog w base spare held 25 v d p) : ∃ x : SigS, x.ok ∧ v = .agg x.cells := by
  have ce : Try.prog.cellsOf 25 = 10 := by kernel_rfl
  have c0 : Try.prog.cellsOf 23 = 1 := by kernel_rfl
  have c1 : Try.prog.cellsOf 4 = 1 := by kernel_rfl
  obtain ⟨cs, rfl, hsz⟩ := okWide_struct Try.underlying25 hv
  rw [ce] at hsz
  obtain ⟨l⟩ := cs
  obtain ⟨fuel, ht⟩ := h
  obtain ⟨xs, n, _, _, _, hlen, hg⟩ := DataW.trod_struct Try.underlying25 ht
  match l, hsz with
  | [v0, v1, v2, v3, v4, v5, v6, v7, v8, v9], _ =>
    have g0 := hg 0 _ rfl
    have g1 := hg 1 _ rfl
    have g2 := hg 2 _ rfl
    have g3 := hg 3 _ rfl
    have g4 := hg 4 _ rfl
    have g5 := hg 5 _ rfl
    have g6 := hg 6 _ rfl
    have g7 := hg 7 _ rfl
    have g8 := hg 8 _ rfl
    have g9 := hg 9 _ rfl
    have hx0 : xs[0]? = some (xs[0]'(by rw [hlen]; decide)) := List.getElem?_eq_getElem _
    have hx1 : xs[1]? = some (xs[1]'(by rw [hlen]; decide)) := List.getElem?_eq_getElem _
    have hx2 : xs[2]? = some (xs[2]'(by rw [hlen]; decide)) := List.getElem?_eq_getElem _
    have hx3 : xs[3]? = some (xs[3]'(by rw [hlen]; decide)) := List.getElem?_eq_getElem _
    have hx4 : xs[4]? = some (xs[4]'(by rw [hlen]; decide)) := List.getElem?_eq_getElem _
    have hx5 : xs[5]? = some (xs[5]'(by rw [hlen]; decide)) := List.getElem?_eq_getElem _
    have hx6 : xs[6]? = some (xs[6]'(by rw [hlen]; decide)) := List.getElem?_eq_getElem _
    have hx7 : xs[7]? = some (xs[7]'(by rw [hlen]; decide)) := List.getElem?_eq_getElem _
    have hx8 : xs[8]? = some (xs[8]'(by rw [hlen]; decide)) := List.getElem?_eq_getElem _
    have hx9 : xs[9]? = some (xs[9]'(by rw [hlen]; decide)) := List.getElem?_eq_getElem _
    rw [hx0] at g0
    rw [hx1] at g1
    rw [hx2] at g2
    rw [hx3] at g3
    rw [hx4] at g4
    rw [hx5] at g5
    rw [hx6] at g6
    rw [hx7] at g7
    rw [hx8] at g8
    rw [hx9] at g9
    simp [c0, c1, Value.cells] at g0 g1 g2 g3 g4 g5 g6 g7 g8 g9
    obtain ⟨z0, hz0, _⟩ := DataW.trod_bool Try.underlying4 g0
    obtain ⟨z1, hz1, _⟩ := DataW.trod_bool Try.underlying4 g1
    obtain ⟨z2, hz2, _⟩ := DataW.trod_bool Try.underlying4 g2
    obtain ⟨z3, hz3, _⟩ := DataW.trod_bool Try.underlying4 g3
    obtain ⟨z4, hz4, _, hw4⟩ := DataW.trod_int Try.underlying23 g4
    obtain ⟨z5, hz5, _, hw5⟩ := DataW.trod_int Try.underlying23 g5
    obtain ⟨z6, hz6, _, hw6⟩ := DataW.trod_int Try.underlying23 g6
    obtain ⟨z7, hz7, _, hw7⟩ := DataW.trod_int Try.underlying23 g7
    obtain ⟨z8, hz8, _, hw8⟩ := DataW.trod_int Try.underlying23 g8
    obtain ⟨z9, hz9, _, hw9⟩ := DataW.trod_int Try.underlying23 g9
    simp only [List.cons.injEq, and_true] at hz0 hz1 hz2 hz3 hz4 hz5 hz6 hz7 hz8 hz9
    subst hz0 hz1 hz2 hz3 hz4 hz5 hz6 hz7 hz8 hz9
    obtain ⟨a4, b4⟩ := bounds_u64 hw4
    obtain ⟨z4, rfl⟩ := Int.eq_ofNat_of_zero_le a4
    obtain ⟨a5, b5⟩ := bounds_u64 hw5
    obtain ⟨z5, rfl⟩ := Int.eq_ofNat_of_zero_le a5
    obtain ⟨a6, b6⟩ := bounds_u64 hw6
    obtain ⟨z6, rfl⟩ := Int.eq_ofNat_of_zero_le a6
    obtain ⟨a7, b7⟩ := bounds_u64 hw7
    obtain ⟨z7, rfl⟩ := Int.eq_ofNat_of_zero_le a7
    obtain ⟨a8, b8⟩ := bounds_u64 hw8
    obtain ⟨z8, rfl⟩ := Int.eq_ofNat_of_zero_le a8
    obtain ⟨a9, b9⟩ := bounds_u64 hw9
    obtain ⟨z9, rfl⟩ := Int.eq_ofNat_of_zero_le a9
    exact ⟨⟨z0, z1, z2, z3, z4, z5, z6, z7, z8, z9⟩, ⟨by dsimp; omega, by dsimp; omega, by dsimp; omega, by dsimp; omega, by dsimp; omega, by dsimp; omega⟩, rfl⟩
end Go.Proofs.Ytkgdfbiokgggmaa
