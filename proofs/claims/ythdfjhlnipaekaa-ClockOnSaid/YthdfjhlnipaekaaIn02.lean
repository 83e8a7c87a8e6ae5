/- A row of acts that came in, as a list: a law that holds of every list of acts holds of every argument. -/
import Derived.Test.YthdfjhlnipaekaaLaw02b
import Derived.Deep.SlicePairs
import Derived.ProofKit
import Derived.OpenShut
set_option linter.unusedVariables false
namespace Go.Proofs.Ythdfjhlnipaekaa
open Go.ChangeShapes Go.WideShapes Go.ChangeAt Go.RowKit

/-- A slice of acts that came in: its acts, and where they lie. -/
def InActs (w : World) (v : Option Addr) (len : Nat) (l : List (Bool × Nat)) (b off : Nat) : Prop :=
  l.length = len ∧ len ≤ 9223372036854775807 ∧ (0 < len → v = some ⟨b, off, none⟩ ∧ b < w.heap.size) ∧ Acts w b off l

theorem in_acts {H : Type} {enc : TypeId × Value → H} {w : World} {fuel : Nat} {spare : Nat → Bool} {held : Bool} {v : Option Addr} {len cap : Nat} {x : DataW H × List MemPlace}
    (h : DataW.trod enc Try.prog w 0 spare held fuel 22 [.slice v len cap] = some x) : ∃ l b off, InActs w v len l b off := by
  rcases Go.Deep.open_slice_pairs Try.underlying22 Try.underlying32 (by kernel_rfl) rfl rfl (by kernel_rfl) (by kernel_rfl) h with ⟨hcs, _⟩ | ⟨a, len', cap', m, n, V0, V1, D0, D1, P0, P1, hcs, _, hl, hm, hmm, _, hi⟩
  · simp only [List.cons.injEq, Value.slice.injEq, and_true] at hcs
    obtain ⟨rfl, rfl, rfl⟩ := hcs
    exact ⟨[], 0, 0, rfl, by omega, fun h => absurd h (by omega), fun i hi => absurd hi (by simp)⟩
  · simp only [List.cons.injEq, Value.slice.injEq, and_true] at hcs
    obtain ⟨rfl, rfl, rfl⟩ := hcs
    have hlm : len ≤ m := by rw [hmm]; split <;> omega
    unfold maxLen at hm
    have each : ∀ i, i < len → ∃ q : Bool × Nat, w.cell? (a.add (i * 2)) = some (.bool q.1) ∧ w.cell? (a.add (i * 2 + 1)) = some (.int .u64 (q.2 : Int)) ∧ q.2 ≤ 18446744073709551615 := by
      intro i hlt
      obtain ⟨c0, c1, t0, t1⟩ := hi i (by omega)
      obtain ⟨p, hp, _⟩ := DataW.trod_bool Try.underlying4 t0
      obtain ⟨z, hz, _, hw⟩ := DataW.trod_int Try.underlying27 t1
      simp only [List.cons.injEq, and_true] at hp hz
      obtain ⟨z0, z1⟩ := bounds_u64 hw
      refine ⟨(p, z.toNat), by rw [c0, hp], ?_, by dsimp; omega⟩
      rw [c1, hz]
      dsimp
      rw [Int.toNat_of_nonneg z0]
    obtain ⟨q, hq⟩ := Go.Deep.choose_lt each
    obtain ⟨b, off, spot⟩ := a
    refine ⟨(List.range len).map q, b, off, by simp, by omega, fun hpos => ?_, fun i hlt => ?_⟩
    · have h0 := (hq 0 hpos).1
      have hs : spot = none := by simpa [Addr.add] using World.cell?_spot h0
      subst hs
      exact ⟨rfl, by have := World.block_lt_of_cell? _ _ h0; simpa [Addr.add] using this⟩
    · simp only [List.length_map, List.length_range] at hlt
      have h0 := (hq 0 (by omega)).1
      have hs : spot = none := by simpa [Addr.add] using World.cell?_spot h0
      subst hs
      have e : ((List.range len).map q).getD i (false, 0) = q i := by simp [List.getD_eq_getElem?_getD, hlt]
      rw [e]
      obtain ⟨a0, a1, a2⟩ := hq i hlt
      rw [Go.WideShapes.add_plain] at a0 a1
      exact ⟨a0, a1, a2⟩

theorem ClockPlays_walk (v : Option Addr) (len cap : Nat) (l : List (Bool × Nat)) (b off : Nat) (w : World) (h : InActs w v len l b off) :
    Calls Try.prog 3 #[.slice v len cap] w fun e w' => e = .returned (.bool true) ∧ Below w.heap.size w w' := by
  obtain ⟨rfl, hm, hv, ha⟩ := h
  by_cases c : 200 < l.length
  · exact ClockPlays_long v _ cap w c hm
  · exact ClockPlays_short b off cap l w (by omega) (fun h => (hv h).2) ha v (fun h => (hv h).1)
end Go.Proofs.Ythdfjhlnipaekaa
