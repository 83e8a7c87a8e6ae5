/- Bounds, three numbers, and a slice of numbers, that came in. -/
import Derived.Test.YtgjpenlfhlkleaaBa
import Derived.Deep.SlicePairs
import Derived.Deep.Fields
import Derived.ProofKit
import Derived.OpenShut
set_option linter.unusedVariables false
namespace Go.Proofs.Ytgjpenlfhlkleaa
open Go.ChangeShapes Go.WideShapes Go.ChangeAt Go.RowKit

theorem in_bounds {H : Type} {enc : TypeId × Value → H} {w : World} {base b0 : Nat} {r : Reach} {spare : Nat → Bool} {held : Bool} {v : Value} {d : DataW H} {p : List MemPlace}
    (hv : Value.okWide Try.prog w r b0 24 v) (h : DataW.Trod enc Try.prog w base spare held 24 v d p) : ∃ b : BS, b.ok ∧ v = .agg b.cells := by
  have ce : Try.prog.cellsOf 24 = 3 := by kernel_rfl
  have c0 : Try.prog.cellsOf 22 = 1 := by kernel_rfl
  obtain ⟨cs, rfl, hsz⟩ := okWide_struct Try.underlying24 hv
  rw [ce] at hsz
  obtain ⟨l⟩ := cs
  obtain ⟨fuel, ht⟩ := h
  obtain ⟨xs, n, _, _, _, hlen, hg⟩ := DataW.trod_struct Try.underlying24 ht
  match l, hsz with
  | [v0, v1, v2], _ =>
    have g0 := hg 0 _ rfl
    have g1 := hg 1 _ rfl
    have g2 := hg 2 _ rfl
    have hx0 : xs[0]? = some (xs[0]'(by rw [hlen]; decide)) := List.getElem?_eq_getElem _
    have hx1 : xs[1]? = some (xs[1]'(by rw [hlen]; decide)) := List.getElem?_eq_getElem _
    have hx2 : xs[2]? = some (xs[2]'(by rw [hlen]; decide)) := List.getElem?_eq_getElem _
    rw [hx0] at g0
    rw [hx1] at g1
    rw [hx2] at g2
    simp [c0, Value.cells] at g0 g1 g2
    obtain ⟨z0, hz0, _, hw0⟩ := DataW.trod_int Try.underlying22 g0
    obtain ⟨z1, hz1, _, hw1⟩ := DataW.trod_int Try.underlying22 g1
    obtain ⟨z2, hz2, _, hw2⟩ := DataW.trod_int Try.underlying22 g2
    simp only [List.cons.injEq, and_true] at hz0 hz1 hz2
    subst hz0 hz1 hz2
    obtain ⟨a0, b0⟩ := bounds_u64 hw0
    obtain ⟨a1, b1⟩ := bounds_u64 hw1
    obtain ⟨a2, b2⟩ := bounds_u64 hw2
    obtain ⟨z0, rfl⟩ := Int.eq_ofNat_of_zero_le a0
    obtain ⟨z1, rfl⟩ := Int.eq_ofNat_of_zero_le a1
    obtain ⟨z2, rfl⟩ := Int.eq_ofNat_of_zero_le a2
    exact ⟨⟨z0, z1, z2⟩, ⟨by dsimp; omega, by dsimp; omega, by dsimp; omega⟩, rfl⟩

theorem in_three {H : Type} {enc : TypeId × Value → H} {w : World} {base b0 : Nat} {r : Reach} {spare : Nat → Bool} {held : Bool} {v : Value} {d : DataW H} {p : List MemPlace}
    (hv : Value.okWide Try.prog w r b0 25 v) (h : DataW.Trod enc Try.prog w base spare held 25 v d p) :
    ∃ x0 x1 x2 : Nat, (x0 ≤ 18446744073709551615 ∧ x1 ≤ 18446744073709551615 ∧ x2 ≤ 18446744073709551615) ∧ v = .agg #[.int .u64 (x0 : Int), .int .u64 (x1 : Int), .int .u64 (x2 : Int)] := by
  have ce : Try.prog.cellsOf 25 = 3 := by kernel_rfl
  have c0 : Try.prog.cellsOf 22 = 1 := by kernel_rfl
  obtain ⟨cs, rfl, hsz, _⟩ : ∃ cs, v = .agg cs ∧ cs.size = Try.prog.cellsOf 25 ∧ Row.okWide Try.prog w r b0 25 cs := by
    simpa [Value.okWide, Try.underlying25] using hv
  rw [ce] at hsz
  obtain ⟨l⟩ := cs
  obtain ⟨fuel, ht⟩ := h
  obtain ⟨xs, n, _, _, _, hlen, hg⟩ := DataW.trod_array Try.underlying25 ht
  match l, hsz with
  | [v0, v1, v2], _ =>
    have g0 := hg 0 (by decide)
    have g1 := hg 1 (by decide)
    have g2 := hg 2 (by decide)
    have hx0 : xs[0]? = some (xs[0]'(by rw [hlen]; decide)) := List.getElem?_eq_getElem _
    have hx1 : xs[1]? = some (xs[1]'(by rw [hlen]; decide)) := List.getElem?_eq_getElem _
    have hx2 : xs[2]? = some (xs[2]'(by rw [hlen]; decide)) := List.getElem?_eq_getElem _
    rw [hx0] at g0
    rw [hx1] at g1
    rw [hx2] at g2
    simp [c0, Value.cells] at g0 g1 g2
    obtain ⟨z0, hz0, _, hw0⟩ := DataW.trod_int Try.underlying22 g0
    obtain ⟨z1, hz1, _, hw1⟩ := DataW.trod_int Try.underlying22 g1
    obtain ⟨z2, hz2, _, hw2⟩ := DataW.trod_int Try.underlying22 g2
    simp only [List.cons.injEq, and_true] at hz0 hz1 hz2
    subst hz0 hz1 hz2
    obtain ⟨a0, b0⟩ := bounds_u64 hw0
    obtain ⟨a1, b1⟩ := bounds_u64 hw1
    obtain ⟨a2, b2⟩ := bounds_u64 hw2
    obtain ⟨z0, rfl⟩ := Int.eq_ofNat_of_zero_le a0
    obtain ⟨z1, rfl⟩ := Int.eq_ofNat_of_zero_le a1
    obtain ⟨z2, rfl⟩ := Int.eq_ofNat_of_zero_le a2
    exact ⟨z0, z1, z2, ⟨by omega, by omega, by omega⟩, rfl⟩

/-- A slice of numbers that came in. -/
def InNr (w : World) (v : Option Addr) (len : Nat) (l : List Nat) : Prop := l.length = len ∧ len ≤ 9223372036854775807 ∧ NumsR w v l

theorem in_nr {H : Type} {enc : TypeId × Value → H} {w : World} {fuel : Nat} {spare : Nat → Bool} {held : Bool} {v : Option Addr} {len cap : Nat} {x : DataW H × List MemPlace}
    (h : DataW.trod enc Try.prog w 0 spare held fuel 26 [.slice v len cap] = some x) : ∃ l, InNr w v len l := by
  rcases open_ints Try.underlying26 Try.underlying22 (by kernel_rfl) h with ⟨hcs, _⟩ | ⟨x, l, c, zs, hcs, _, hl, hm, hz, _, hcell, hwz⟩
  · simp only [List.cons.injEq, Value.slice.injEq, and_true] at hcs
    obtain ⟨rfl, rfl, rfl⟩ := hcs
    exact ⟨[], rfl, by omega, NumsR.none _ _⟩
  · simp only [List.cons.injEq, Value.slice.injEq, and_true] at hcs
    obtain ⟨rfl, rfl, rfl⟩ := hcs
    have hz' : len ≤ zs.length := by rw [hz]; split <;> omega
    unfold maxLen at hm
    refine ⟨(zs.take len).map Int.toNat, by simp; omega, by omega, fun hp => ?_⟩
    have hlen : ((zs.take len).map Int.toNat).length = len := by simp; omega
    rw [hlen] at hp
    obtain ⟨b, off, spot⟩ := x
    have h0 := hcell 0 (by omega)
    have hs : spot = none := by simpa [Addr.add] using World.cell?_spot h0
    subst hs
    refine ⟨b, off, rfl, by have := World.block_lt_of_cell? _ _ h0; simpa [Addr.add] using this, fun i hi => ?_⟩
    rw [hlen] at hi
    have h1 := hcell i (by omega)
    rw [Go.WideShapes.add_plain] at h1
    have hiz : i < zs.length := by omega
    have hb := (bounds_u64 (hwz _ (List.getElem_mem hiz))).1
    rw [h1]
    have e1 : zs.getD i 0 = zs[i] := by simp [List.getD_eq_getElem?_getD, hiz]
    have e2 : ((zs.take len).map Int.toNat).getD i 0 = zs[i].toNat := by simp [List.getD_eq_getElem?_getD, hiz, hi]
    rw [e1, e2, Int.toNat_of_nonneg hb]
end Go.Proofs.Ytgjpenlfhlkleaa
