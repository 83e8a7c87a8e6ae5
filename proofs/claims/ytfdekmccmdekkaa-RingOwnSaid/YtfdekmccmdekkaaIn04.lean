/- A row of items, and a row of acts, that came in, as lists: a law that holds of all lists holds of every argument. -/
import Derived.Test.YtfdekmccmdekkaaLaw04b
import Derived.Deep.SlicePairs
import Derived.ProofKit
import Derived.OpenShut
set_option linter.unusedVariables false
namespace Go.Proofs.Ytfdekmccmdekkaa
open Go.ChangeShapes Go.WideShapes Go.ChangeAt Go.RowKit

/-- A slice of acts that came in: its acts, and where they lie. -/
def InActs3 (w : World) (v : Option Addr) (len : Nat) (l : List (Nat × Nat × Int)) (b off : Nat) : Prop :=
  l.length = len ∧ len ≤ 9223372036854775807 ∧ (0 < len → v = some ⟨b, off, none⟩ ∧ b < w.heap.size) ∧ Acts3 w b off l

/-- A slice of numbers that came in. -/
def InNums (w : World) (v : Option Addr) (len : Nat) (l : List Nat) : Prop :=
  l.length = len ∧ len ≤ 9223372036854775807 ∧ Nums w v l

theorem in_acts3 {H : Type} {enc : TypeId × Value → H} {w : World} {fuel : Nat} {spare : Nat → Bool} {held : Bool} {v : Option Addr} {len cap : Nat} {x : DataW H × List MemPlace}
    (h : DataW.trod enc Try.prog w 0 spare held fuel 23 [.slice v len cap] = some x) : ∃ l b off, InActs3 w v len l b off := by
  rcases Go.Deep.open_slice Try.underlying23 h with ⟨hcs, _⟩ | ⟨a, len', cap', m, n, D, Pl, hcs, _, hl, hm, hmm, _, hi⟩
  · simp only [List.cons.injEq, Value.slice.injEq, and_true] at hcs
    obtain ⟨rfl, rfl, rfl⟩ := hcs
    exact ⟨[], 0, 0, rfl, by omega, fun h => absurd h (by omega), fun i hi => absurd hi (by simp)⟩
  · simp only [List.cons.injEq, Value.slice.injEq, and_true] at hcs
    obtain ⟨rfl, rfl, rfl⟩ := hcs
    have hlm : len ≤ m := by rw [hmm]; split <;> omega
    have ce : Try.prog.cellsOf 33 = 3 := by kernel_rfl
    have c0 : Try.prog.cellsOf 5 = 1 := by kernel_rfl
    have c1 : Try.prog.cellsOf 27 = 1 := by kernel_rfl
    have c2 : Try.prog.cellsOf 3 = 1 := by kernel_rfl
    unfold maxLen at hm
    have each : ∀ i, i < len → ∃ q : Nat × Nat × Int, w.cell? (a.add (i * 3)) = some (.int .u8 (q.1 : Int)) ∧ w.cell? (a.add (i * 3 + 1)) = some (.int .u64 (q.2.1 : Int)) ∧ w.cell? (a.add (i * 3 + 2)) = some (.int .i64 q.2.2) ∧ q.1 ≤ 255 := by
      intro i hlt
      obtain ⟨cs', h1, h2⟩ := hi i (by omega)
      rw [ce] at h1
      obtain ⟨_, hlen, hcell⟩ := World.cells?_some h1
      obtain ⟨xs, k, _, _, _, hxl, hf⟩ := DataW.trod_struct Try.underlying33 h2
      match cs', hlen with
      | [v0, v1, v2], _ =>
        have g0 := hf 0 _ rfl
        have g1 := hf 1 _ rfl
        have g2 := hf 2 _ rfl
        have hx0 : xs[0]? = some (xs[0]'(by rw [hxl]; decide)) := List.getElem?_eq_getElem _
        have hx1 : xs[1]? = some (xs[1]'(by rw [hxl]; decide)) := List.getElem?_eq_getElem _
        have hx2 : xs[2]? = some (xs[2]'(by rw [hxl]; decide)) := List.getElem?_eq_getElem _
        rw [hx0] at g0
        rw [hx1] at g1
        rw [hx2] at g2

        simp [c0, c1, c2] at g0 g1 g2
        obtain ⟨z0, hz0, _, hw0⟩ := DataW.trod_int Try.underlying5 g0
        obtain ⟨z1, hz1, _, hw1⟩ := DataW.trod_int Try.underlying27 g1
        obtain ⟨z2, hz2, _, hw2⟩ := DataW.trod_int Try.underlying3 g2
        simp only [List.cons.injEq, and_true] at hz0 hz1 hz2
        subst hz0 hz1 hz2
        have e0 := hcell 0 (by omega)
        have e1 := hcell 1 (by omega)
        have e2 := hcell 2 (by omega)
        rw [Go.Deep.add_add] at e0 e1 e2
        have b0 : 0 ≤ z0 ∧ z0 ≤ 255 := bounds_u8 hw0
        obtain ⟨b1, _⟩ := bounds_u64 hw1
        refine ⟨(z0.toNat, z1.toNat, z2), ?_, ?_, ?_, by dsimp; omega⟩
        · dsimp; rw [Int.toNat_of_nonneg b0.1]; simpa using e0
        · dsimp; rw [Int.toNat_of_nonneg b1]; simpa using e1
        · simpa using e2
    obtain ⟨q, hq⟩ := Go.Deep.choose_lt each
    obtain ⟨b, off, spot⟩ := a
    refine ⟨(List.range len).map q, b, off, by simp, by omega, fun hpos => ?_, fun i hlt => ?_⟩
    · have h0 := (hq 0 hpos).1
      have hs : spot = none := by simpa [Addr.add] using World.cell?_spot h0
      subst hs
      exact ⟨rfl, by have := World.block_lt_of_cell? _ _ h0; simpa [Addr.add] using this⟩
    · simp only [List.length_map, List.length_range] at hlt
      have h0 := (hq 0 (by omega)).1
      have hs : spot = none := by simpa [Addr.add] using World.cell?_spot h0
      subst hs
      have e : ((List.range len).map q).getD i (0, 0, 0) = q i := by simp [List.getD_eq_getElem?_getD, hlt]
      rw [e]
      obtain ⟨a0, a1, a2, a3⟩ := hq i hlt
      rw [Go.WideShapes.add_plain] at a0 a1 a2
      exact ⟨a0, a1, a2, a3⟩

theorem in_nums {H : Type} {enc : TypeId × Value → H} {w : World} {fuel : Nat} {spare : Nat → Bool} {held : Bool} {v : Option Addr} {len cap : Nat} {x : DataW H × List MemPlace}
    (h : DataW.trod enc Try.prog w 0 spare held fuel 22 [.slice v len cap] = some x) : ∃ l, InNums w v len l := by
  rcases open_ints Try.underlying22 Try.underlying27 (by kernel_rfl) h with ⟨hcs, _⟩ | ⟨x, l, c, zs, hcs, _, hl, hm, hz, _, hcell, hwz⟩
  · simp only [List.cons.injEq, Value.slice.injEq, and_true] at hcs
    obtain ⟨rfl, rfl, rfl⟩ := hcs
    exact ⟨[], rfl, by omega, fun h => absurd h (by simp)⟩
  · simp only [List.cons.injEq, Value.slice.injEq, and_true] at hcs
    obtain ⟨rfl, rfl, rfl⟩ := hcs
    have hz' : len ≤ zs.length := by rw [hz]; split <;> omega
    unfold maxLen at hm
    refine ⟨(zs.take len).map Int.toNat, by simp; omega, by omega, fun hp => ?_⟩
    have hlen : ((zs.take len).map Int.toNat).length = len := by simp; omega
    rw [hlen] at hp ⊢
    obtain ⟨b, off, spot⟩ := x
    have h0 := hcell 0 (by omega)
    have hs : spot = none := by simpa [Addr.add] using World.cell?_spot h0
    subst hs
    refine ⟨b, off, rfl, by have := World.block_lt_of_cell? _ _ h0; simpa [Addr.add] using this, fun i hi => ?_⟩
    have h1 := hcell i (by omega)
    rw [Go.WideShapes.add_plain] at h1
    have hiz : i < zs.length := by omega
    have hb := (bounds_u64 (hwz _ (List.getElem_mem hiz))).1
    rw [h1]
    have e1 : zs.getD i 0 = zs[i] := by simp [List.getD_eq_getElem?_getD, hiz]
    have e2 : ((zs.take len).map Int.toNat).getD i 0 = zs[i].toNat := by simp [List.getD_eq_getElem?_getD, hiz, hi]
    rw [e1, e2, ncell, Int.toNat_of_nonneg hb]

theorem RingPlays_walk (v0 v1 : Option Addr) (n0 n1 c0 c1 : Nat) (f : List Nat) (l : List (Nat × Nat × Int)) (b off : Nat) (w : World) (h0 : InNums w v0 n0 f) (h1 : InActs3 w v1 n1 l b off) :
    Calls Try.prog 3 #[.slice v0 n0 c0, .slice v1 n1 c1] w fun e w' => e = .returned (.bool true) ∧ Below w.heap.size w w' := by
  obtain ⟨rfl, m0, ha⟩ := h0
  obtain ⟨rfl, m1, hv, hb⟩ := h1
  by_cases c : 200 < f.length ∨ 200 < l.length
  · exact RingPlays_long v0 v1 _ _ c0 c1 w c m0 m1
  · exact RingPlays_rest w v0 v1 c0 c1 b off f l (by omega) (by omega) ha hb hv
end Go.Proofs.Ytfdekmccmdekkaa
