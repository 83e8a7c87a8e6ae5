/- 1 texts put together: what each one says stands ahead of it. -/
import Derived.Test.YtpkbjfhicocogaaGreatDoorKPlays23
import Derived.Deep.SlicePairs
import Derived.ProofKit
import Derived.OpenShut
/- A slice of structs that came in ([]bbr.Event), as a list, over this translation. -/
set_option linter.unusedVariables false
namespace Go.Proofs.YtpkbjfhicocogaaGreatDoor
open Go.ChangeShapes Go.WideShapes Go.ChangeAt Go.RowKit

structure Ev15 where
  now : Nat
  sd : Nat
  si : Nat
  sr : Nat
  rt : Nat
  sl : Bool
  sm : Bool
  dl : Nat
  ac : Nat
  lo : Nat
  fl : Nat
instance : Inhabited Ev15 := ⟨⟨0, 0, 0, 0, 0, false, false, 0, 0, 0, 0⟩⟩
structure Ev15At (w : World) (b o : Nat) (q : Ev15) : Prop where
  k0 : w.cell? ⟨b, o, none⟩ = some (.int .u64 (q.now : Int))
  k1 : w.cell? ⟨b, o + 1, none⟩ = some (.int .u64 (q.sd : Int))
  k2 : w.cell? ⟨b, o + 2, none⟩ = some (.int .u64 (q.si : Int))
  k3 : w.cell? ⟨b, o + 3, none⟩ = some (.int .u64 (q.sr : Int))
  k4 : w.cell? ⟨b, o + 4, none⟩ = some (.int .u64 (q.rt : Int))
  k5 : w.cell? ⟨b, o + 5, none⟩ = some (.bool q.sl)
  k6 : w.cell? ⟨b, o + 6, none⟩ = some (.bool q.sm)
  k7 : w.cell? ⟨b, o + 7, none⟩ = some (.int .u64 (q.dl : Int))
  k8 : w.cell? ⟨b, o + 8, none⟩ = some (.int .u64 (q.ac : Int))
  k9 : w.cell? ⟨b, o + 9, none⟩ = some (.int .u64 (q.lo : Int))
  k10 : w.cell? ⟨b, o + 10, none⟩ = some (.int .u64 (q.fl : Int))
  b0 : q.now ≤ 18446744073709551615
  b1 : q.sd ≤ 18446744073709551615
  b2 : q.si ≤ 18446744073709551615
  b3 : q.sr ≤ 18446744073709551615
  b4 : q.rt ≤ 18446744073709551615
  b7 : q.dl ≤ 18446744073709551615
  b8 : q.ac ≤ 18446744073709551615
  b9 : q.lo ≤ 18446744073709551615
  b10 : q.fl ≤ 18446744073709551615
theorem Ev15At.keep {w w' : World} {b o : Nat} {q : Ev15} (h : Ev15At w b o q) (hb : b < w.heap.size) (k : Below w.heap.size w w') : Ev15At w' b o q :=
  ⟨(k.cell (p := ⟨b, _, none⟩) hb).trans h.k0, (k.cell (p := ⟨b, _, none⟩) hb).trans h.k1, (k.cell (p := ⟨b, _, none⟩) hb).trans h.k2, (k.cell (p := ⟨b, _, none⟩) hb).trans h.k3, (k.cell (p := ⟨b, _, none⟩) hb).trans h.k4, (k.cell (p := ⟨b, _, none⟩) hb).trans h.k5, (k.cell (p := ⟨b, _, none⟩) hb).trans h.k6, (k.cell (p := ⟨b, _, none⟩) hb).trans h.k7, (k.cell (p := ⟨b, _, none⟩) hb).trans h.k8, (k.cell (p := ⟨b, _, none⟩) hb).trans h.k9, (k.cell (p := ⟨b, _, none⟩) hb).trans h.k10, h.b0, h.b1, h.b2, h.b3, h.b4, h.b7, h.b8, h.b9, h.b10⟩
def InEv15 (w : World) (v : Option Addr) (l : List Ev15) (b off : Nat) : Prop :=
  l.length ≤ 9223372036854775807 ∧ (0 < l.length → v = some ⟨b, off, none⟩ ∧ b < w.heap.size) ∧ ∀ i, i < l.length → Ev15At w b (off + i * 11) (l.getD i default)

set_option maxRecDepth 100000 in
set_option maxHeartbeats 1000000 in
theorem in_evs {H : Type} {enc : TypeId × Value → H} {w : World} {fuel : Nat} {spare : Nat → Bool} {held : Bool} {v : Option Addr} {len cap : Nat} {x : DataW H × List MemPlace}
    (h : DataW.trod enc Tryz.prog w 0 spare held fuel 25 [.slice v len cap] = some x) : ∃ l b off, l.length = len ∧ InEv15 w v l b off := by
  rcases Go.Deep.open_slice Tryz.underlying25 h with ⟨hcs, _⟩ | ⟨a, len', cap', m, n, D, Pl, hcs, _, hl, hm, hmm, _, hi⟩
  · simp only [List.cons.injEq, Value.slice.injEq, and_true] at hcs
    obtain ⟨rfl, rfl, rfl⟩ := hcs
    exact ⟨[], 0, 0, rfl, by simp, fun h => absurd h (by simp), fun i hi => absurd hi (by simp)⟩
  · simp only [List.cons.injEq, Value.slice.injEq, and_true] at hcs
    obtain ⟨rfl, rfl, rfl⟩ := hcs
    have hlm : len ≤ m := by rw [hmm]; split <;> omega
    have ce : Tryz.prog.cellsOf 39 = 11 := by kernel_rfl
    have c0 : Tryz.prog.cellsOf 22 = 1 := by kernel_rfl
    have c1 : Tryz.prog.cellsOf 37 = 5 := by kernel_rfl
    have c2 : Tryz.prog.cellsOf 4 = 1 := by kernel_rfl
    unfold maxLen at hm
    obtain ⟨b, off, spot⟩ := a
    have hs0 : 0 < len → spot = none := by
      intro hpos
      obtain ⟨cs', h1, _⟩ := hi 0 (by omega)
      rw [ce] at h1
      obtain ⟨_, hlen, hcell⟩ := World.cells?_some h1
      match cs', hlen with
      | [v0, v1, v2, v3, v4, v5, v6, v7, v8, v9, v10], _ =>
        have e0 := hcell 0 (by omega)
        rw [Go.Deep.add_add] at e0
        simpa [Addr.add] using World.cell?_spot e0
    have each : ∀ i, i < len → ∃ q : Ev15, spot = none ∧ b < w.heap.size ∧ Ev15At w b (off + i * 11) q := by
      intro i hlt
      obtain ⟨cs', h1, h2⟩ := hi i (by omega)
      rw [ce] at h1
      obtain ⟨_, hlen, hcell⟩ := World.cells?_some h1
      match cs', hlen with
      | [v0, v1, v2, v3, v4, v5, v6, v7, v8, v9, v10], _ =>
        obtain ⟨xs0, k0, _, _, _, hxl0, hf0⟩ := DataW.trod_struct Tryz.underlying39 h2
        have g0_0 := hf0 0 _ rfl
        have hx0_0 : xs0[0]? = some (xs0[0]'(by rw [hxl0]; decide)) := List.getElem?_eq_getElem _
        rw [hx0_0] at g0_0
        simp [c0] at g0_0
        have g0_1 := hf0 1 _ rfl
        have hx0_1 : xs0[1]? = some (xs0[1]'(by rw [hxl0]; decide)) := List.getElem?_eq_getElem _
        rw [hx0_1] at g0_1
        simp [c1] at g0_1
        have g0_2 := hf0 2 _ rfl
        have hx0_2 : xs0[2]? = some (xs0[2]'(by rw [hxl0]; decide)) := List.getElem?_eq_getElem _
        rw [hx0_2] at g0_2
        simp [c2] at g0_2
        have g0_3 := hf0 3 _ rfl
        have hx0_3 : xs0[3]? = some (xs0[3]'(by rw [hxl0]; decide)) := List.getElem?_eq_getElem _
        rw [hx0_3] at g0_3
        simp [c0] at g0_3
        have g0_4 := hf0 4 _ rfl
        have hx0_4 : xs0[4]? = some (xs0[4]'(by rw [hxl0]; decide)) := List.getElem?_eq_getElem _
        rw [hx0_4] at g0_4
        simp [c0] at g0_4
        have g0_5 := hf0 5 _ rfl
        have hx0_5 : xs0[5]? = some (xs0[5]'(by rw [hxl0]; decide)) := List.getElem?_eq_getElem _
        rw [hx0_5] at g0_5
        simp [c0] at g0_5
        have g0_6 := hf0 6 _ rfl
        have hx0_6 : xs0[6]? = some (xs0[6]'(by rw [hxl0]; decide)) := List.getElem?_eq_getElem _
        rw [hx0_6] at g0_6
        simp [c0] at g0_6
        obtain ⟨z0, hz0, _, hw0⟩ := DataW.trod_int Tryz.underlying22 g0_0
        obtain ⟨b0, b0'⟩ := bounds_u64 hw0
        simp only [List.cons.injEq, and_true] at hz0
        subst hz0
        obtain ⟨xs1, k1, _, _, _, hxl1, hf1⟩ := DataW.trod_struct Tryz.underlying37 g0_1
        have g1_0 := hf1 0 _ rfl
        have hx1_0 : xs1[0]? = some (xs1[0]'(by rw [hxl1]; decide)) := List.getElem?_eq_getElem _
        rw [hx1_0] at g1_0
        simp [c0] at g1_0
        have g1_1 := hf1 1 _ rfl
        have hx1_1 : xs1[1]? = some (xs1[1]'(by rw [hxl1]; decide)) := List.getElem?_eq_getElem _
        rw [hx1_1] at g1_1
        simp [c0] at g1_1
        have g1_2 := hf1 2 _ rfl
        have hx1_2 : xs1[2]? = some (xs1[2]'(by rw [hxl1]; decide)) := List.getElem?_eq_getElem _
        rw [hx1_2] at g1_2
        simp [c0] at g1_2
        have g1_3 := hf1 3 _ rfl
        have hx1_3 : xs1[3]? = some (xs1[3]'(by rw [hxl1]; decide)) := List.getElem?_eq_getElem _
        rw [hx1_3] at g1_3
        simp [c0] at g1_3
        have g1_4 := hf1 4 _ rfl
        have hx1_4 : xs1[4]? = some (xs1[4]'(by rw [hxl1]; decide)) := List.getElem?_eq_getElem _
        rw [hx1_4] at g1_4
        simp [c2] at g1_4
        obtain ⟨z1, hz1, _, hw1⟩ := DataW.trod_int Tryz.underlying22 g1_0
        obtain ⟨b1, b1'⟩ := bounds_u64 hw1
        simp only [List.cons.injEq, and_true] at hz1
        subst hz1
        obtain ⟨z2, hz2, _, hw2⟩ := DataW.trod_int Tryz.underlying22 g1_1
        obtain ⟨b2, b2'⟩ := bounds_u64 hw2
        simp only [List.cons.injEq, and_true] at hz2
        subst hz2
        obtain ⟨z3, hz3, _, hw3⟩ := DataW.trod_int Tryz.underlying22 g1_2
        obtain ⟨b3, b3'⟩ := bounds_u64 hw3
        simp only [List.cons.injEq, and_true] at hz3
        subst hz3
        obtain ⟨z4, hz4, _, hw4⟩ := DataW.trod_int Tryz.underlying22 g1_3
        obtain ⟨b4, b4'⟩ := bounds_u64 hw4
        simp only [List.cons.injEq, and_true] at hz4
        subst hz4
        obtain ⟨z5, hz5, _⟩ := DataW.trod_bool Tryz.underlying4 g1_4
        simp only [List.cons.injEq, and_true] at hz5
        subst hz5
        obtain ⟨z6, hz6, _⟩ := DataW.trod_bool Tryz.underlying4 g0_2
        simp only [List.cons.injEq, and_true] at hz6
        subst hz6
        obtain ⟨z7, hz7, _, hw7⟩ := DataW.trod_int Tryz.underlying22 g0_3
        obtain ⟨b7, b7'⟩ := bounds_u64 hw7
        simp only [List.cons.injEq, and_true] at hz7
        subst hz7
        obtain ⟨z8, hz8, _, hw8⟩ := DataW.trod_int Tryz.underlying22 g0_4
        obtain ⟨b8, b8'⟩ := bounds_u64 hw8
        simp only [List.cons.injEq, and_true] at hz8
        subst hz8
        obtain ⟨z9, hz9, _, hw9⟩ := DataW.trod_int Tryz.underlying22 g0_5
        obtain ⟨b9, b9'⟩ := bounds_u64 hw9
        simp only [List.cons.injEq, and_true] at hz9
        subst hz9
        obtain ⟨z10, hz10, _, hw10⟩ := DataW.trod_int Tryz.underlying22 g0_6
        obtain ⟨b10, b10'⟩ := bounds_u64 hw10
        simp only [List.cons.injEq, and_true] at hz10
        subst hz10
        have e0 := hcell 0 (by omega)
        have e1 := hcell 1 (by omega)
        have e2 := hcell 2 (by omega)
        have e3 := hcell 3 (by omega)
        have e4 := hcell 4 (by omega)
        have e5 := hcell 5 (by omega)
        have e6 := hcell 6 (by omega)
        have e7 := hcell 7 (by omega)
        have e8 := hcell 8 (by omega)
        have e9 := hcell 9 (by omega)
        have e10 := hcell 10 (by omega)
        rw [Go.Deep.add_add] at e0 e1 e2 e3 e4 e5 e6 e7 e8 e9 e10
        have hs := hs0 (by omega)
        subst hs
        rw [Go.WideShapes.add_plain] at e0 e1 e2 e3 e4 e5 e6 e7 e8 e9 e10
        refine ⟨⟨z0.toNat, z1.toNat, z2.toNat, z3.toNat, z4.toNat, z5, z6, z7.toNat, z8.toNat, z9.toNat, z10.toNat⟩, rfl, World.block_lt_of_cell? _ _ e0, ⟨?_, ?_, ?_, ?_, ?_, ?_, ?_, ?_, ?_, ?_, ?_, by dsimp; omega, by dsimp; omega, by dsimp; omega, by dsimp; omega, by dsimp; omega, by dsimp; omega, by dsimp; omega, by dsimp; omega, by dsimp; omega⟩⟩
        · dsimp; rw [Int.toNat_of_nonneg b0]; simpa [Nat.add_assoc] using e0
        · dsimp; rw [Int.toNat_of_nonneg b1]; simpa [Nat.add_assoc] using e1
        · dsimp; rw [Int.toNat_of_nonneg b2]; simpa [Nat.add_assoc] using e2
        · dsimp; rw [Int.toNat_of_nonneg b3]; simpa [Nat.add_assoc] using e3
        · dsimp; rw [Int.toNat_of_nonneg b4]; simpa [Nat.add_assoc] using e4
        · dsimp; simpa [Nat.add_assoc] using e5
        · dsimp; simpa [Nat.add_assoc] using e6
        · dsimp; rw [Int.toNat_of_nonneg b7]; simpa [Nat.add_assoc] using e7
        · dsimp; rw [Int.toNat_of_nonneg b8]; simpa [Nat.add_assoc] using e8
        · dsimp; rw [Int.toNat_of_nonneg b9]; simpa [Nat.add_assoc] using e9
        · dsimp; rw [Int.toNat_of_nonneg b10]; simpa [Nat.add_assoc] using e10
    obtain ⟨q, hq⟩ := Go.Deep.choose_lt each
    refine ⟨(List.range len).map q, b, off, by simp, by simp; omega, fun hpos => ?_, fun i hlt => ?_⟩
    · have hpos' : 0 < len := by simpa using hpos
      obtain ⟨rfl, h2, _⟩ := hq 0 hpos'
      exact ⟨rfl, h2⟩
    · simp only [List.length_map, List.length_range] at hlt
      have e : ((List.range len).map q).getD i default = q i := by simp [List.getD_eq_getElem?_getD, hlt]
      rw [e]
      exact (hq i hlt).2.2
end Go.Proofs.YtpkbjfhicocogaaGreatDoor
