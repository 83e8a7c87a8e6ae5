/- Two numbers of 32 bits, an array by value that came in. -/
import Derived.Test.YtbgmkebjehapgaaIn18
import Derived.Deep.Fields
set_option linter.unusedVariables false
namespace Go.Proofs.Ytbgmkebjehapgaa
open Go.ChangeShapes Go.WideShapes Go.ChangeAt Go.RowKit

theorem in_two32 {H : Type} {enc : TypeId × Value → H} {w : World} {base b0 : Nat} {r : Reach} {spare : Nat → Bool} {held : Bool} {v : Value} {d : DataW H} {p : List MemPlace}
    (hv : Value.okWide Try.prog w r b0 38 v) (h : DataW.Trod enc Try.prog w base spare held 38 v d p) :
    ∃ x0 x1 : Nat, (x0 ≤ 4294967295 ∧ x1 ≤ 4294967295) ∧ v = .agg #[.int .u32 (x0 : Int), .int .u32 (x1 : Int)] := by
  have ce : Try.prog.cellsOf 38 = 2 := by kernel_rfl
  have c0 : Try.prog.cellsOf 37 = 1 := by kernel_rfl
  obtain ⟨cs, rfl, hsz, _⟩ : ∃ cs, v = .agg cs ∧ cs.size = Try.prog.cellsOf 38 ∧ Row.okWide Try.prog w r b0 38 cs := by
    simpa [Value.okWide, Try.underlying38] using hv
  rw [ce] at hsz
  obtain ⟨l⟩ := cs
  obtain ⟨fuel, ht⟩ := h
  obtain ⟨xs, n, _, _, _, hlen, hg⟩ := DataW.trod_array Try.underlying38 ht
  match l, hsz with
  | [v0, v1], _ =>
    have g0 := hg 0 (by decide)
    have g1 := hg 1 (by decide)
    have hx0 : xs[0]? = some (xs[0]'(by rw [hlen]; decide)) := List.getElem?_eq_getElem _
    have hx1 : xs[1]? = some (xs[1]'(by rw [hlen]; decide)) := List.getElem?_eq_getElem _
    rw [hx0] at g0
    rw [hx1] at g1
    simp [c0, Value.cells] at g0 g1
    obtain ⟨z0, hz0, _, hw0⟩ := DataW.trod_int Try.underlying37 g0
    obtain ⟨z1, hz1, _, hw1⟩ := DataW.trod_int Try.underlying37 g1
    simp only [List.cons.injEq, and_true] at hz0 hz1
    subst hz0 hz1
    obtain ⟨a0, b0⟩ := bounds_u32 hw0
    obtain ⟨a1, b1⟩ := bounds_u32 hw1
    obtain ⟨z0, rfl⟩ := Int.eq_ofNat_of_zero_le a0
    obtain ⟨z1, rfl⟩ := Int.eq_ofNat_of_zero_le a1
    exact ⟨z0, z1, ⟨by omega, by omega⟩, rfl⟩
end Go.Proofs.Ytbgmkebjehapgaa
