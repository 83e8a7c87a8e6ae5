/- 1 texts put together: what each one says stands ahead of it. -/
import Derived.Test.YtpkbjfhicocogaaDoorKStuck20
import Derived.Deep.SlicePairs
import Derived.ProofKit
import Derived.OpenShut
/- A slice of numbers that came in, over this translation. -/
set_option linter.unusedVariables false
namespace Go.Proofs.YtpkbjfhicocogaaDoor
open Go.ChangeShapes Go.WideShapes Go.ChangeAt Go.RowKit

/-- A slice of numbers that came in. -/
def InNums (w : World) (v : Option Addr) (len : Nat) (l : List Nat) : Prop :=
  l.length = len ∧ len ≤ 9223372036854775807 ∧ Nums w v l

theorem in_nums {H : Type} {enc : TypeId × Value → H} {w : World} {fuel : Nat} {spare : Nat → Bool} {held : Bool} {v : Option Addr} {len cap : Nat} {x : DataW H × List MemPlace}
    (h : DataW.trod enc Tryd.prog w 0 spare held fuel 44 [.slice v len cap] = some x) : ∃ l, InNums w v len l := by
  rcases open_ints Tryd.underlying44 Tryd.underlying22 (by kernel_rfl) h with ⟨hcs, _⟩ | ⟨x, l, c, zs, hcs, _, hl, hm, hz, _, hcell, hwz⟩
  · simp only [List.cons.injEq, Value.slice.injEq, and_true] at hcs
    obtain ⟨rfl, rfl, rfl⟩ := hcs
    exact ⟨[], rfl, by omega, fun h => absurd h (by simp)⟩
  · simp only [List.cons.injEq, Value.slice.injEq, and_true] at hcs
    obtain ⟨rfl, rfl, rfl⟩ := hcs
    have hz' : len ≤ zs.length := by rw [hz]; split <;> omega
    unfold maxLen at hm
    refine ⟨(zs.take len).map Int.toNat, by simp; omega, by omega, fun hp => ?_⟩
    have hlen : ((zs.take len).map Int.toNat).length = len := by simp; omega
    rw [hlen] at hp ⊢
    obtain ⟨b, off, spot⟩ := x
    have h0 := hcell 0 (by omega)
    have hs : spot = none := by simpa [Addr.add] using World.cell?_spot h0
    subst hs
    refine ⟨b, off, rfl, by have := World.block_lt_of_cell? _ _ h0; simpa [Addr.add] using this, fun i hi => ?_⟩
    have h1 := hcell i (by omega)
    rw [Go.WideShapes.add_plain] at h1
    have hiz : i < zs.length := by omega
    have hb := (bounds_u64 (hwz _ (List.getElem_mem hiz))).1
    rw [h1]
    have e1 : zs.getD i 0 = zs[i] := by simp [List.getD_eq_getElem?_getD, hiz]
    have e2 : ((zs.take len).map Int.toNat).getD i 0 = zs[i].toNat := by simp [List.getD_eq_getElem?_getD, hiz, hi]
    rw [e1, e2, ncell, Int.toNat_of_nonneg hb]

end Go.Proofs.YtpkbjfhicocogaaDoor
