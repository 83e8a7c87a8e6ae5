/- 2 texts put together: what each one says stands ahead of it. -/
import Derived.Test.YtpkbjfhicocogaaDoorKStuck23
import Derived.Deep.SlicePairs
import Derived.ProofKit
import Derived.OpenShut
import Derived.Test.YtpkbjfhicocogaaDoorKStuck25
import Derived.Test.YtpkbjfhicocogaaDoorKStuck04
import Derived.StillTailTactics
/- A slice of structs that came in ([]bbr.Event), as a list, over this translation. -/
set_option linter.unusedVariables false
namespace Go.Proofs.YtpkbjfhicocogaaDoor
open Go.ChangeShapes Go.WideShapes Go.ChangeAt Go.RowKit

structure Ev15 where
  now : Nat
  sd : Nat
  si : Nat
  sr : Nat
  rt : Nat
  sl : Bool
  sm : Bool
  dl : Nat
  ac : Nat
  lo : Nat
  fl : Nat
instance : Inhabited Ev15 := ⟨⟨0, 0, 0, 0, 0, false, false, 0, 0, 0, 0⟩⟩
structure Ev15At (w : World) (b o : Nat) (q : Ev15) : Prop where
  k0 : w.cell? ⟨b, o, none⟩ = some (.int .u64 (q.now : Int))
  k1 : w.cell? ⟨b, o + 1, none⟩ = some (.int .u64 (q.sd : Int))
  k2 : w.cell? ⟨b, o + 2, none⟩ = some (.int .u64 (q.si : Int))
  k3 : w.cell? ⟨b, o + 3, none⟩ = some (.int .u64 (q.sr : Int))
  k4 : w.cell? ⟨b, o + 4, none⟩ = some (.int .u64 (q.rt : Int))
  k5 : w.cell? ⟨b, o + 5, none⟩ = some (.bool q.sl)
  k6 : w.cell? ⟨b, o + 6, none⟩ = some (.bool q.sm)
  k7 : w.cell? ⟨b, o + 7, none⟩ = some (.int .u64 (q.dl : Int))
  k8 : w.cell? ⟨b, o + 8, none⟩ = some (.int .u64 (q.ac : Int))
  k9 : w.cell? ⟨b, o + 9, none⟩ = some (.int .u64 (q.lo : Int))
  k10 : w.cell? ⟨b, o + 10, none⟩ = some (.int .u64 (q.fl : Int))
  b0 : q.now ≤ 18446744073709551615
  b1 : q.sd ≤ 18446744073709551615
  b2 : q.si ≤ 18446744073709551615
  b3 : q.sr ≤ 18446744073709551615
  b4 : q.rt ≤ 18446744073709551615
  b7 : q.dl ≤ 18446744073709551615
  b8 : q.ac ≤ 18446744073709551615
  b9 : q.lo ≤ 18446744073709551615
  b10 : q.fl ≤ 18446744073709551615
theorem Ev15At.keep {w w' : World} {b o : Nat} {q : Ev15} (h : Ev15At w b o q) (hb : b < w.heap.size) (k : Below w.heap.size w w') : Ev15At w' b o q :=
  ⟨(k.cell (p := ⟨b, _, none⟩) hb).trans h.k0, (k.cell (p := ⟨b, _, none⟩) hb).trans h.k1, (k.cell (p := ⟨b, _, none⟩) hb).trans h.k2, (k.cell (p := ⟨b, _, none⟩) hb).trans h.k3, (k.cell (p := ⟨b, _, none⟩) hb).trans h.k4, (k.cell (p := ⟨b, _, none⟩) hb).trans h.k5, (k.cell (p := ⟨b, _, none⟩) hb).trans h.k6, (k.cell (p := ⟨b, _, none⟩) hb).trans h.k7, (k.cell (p := ⟨b, _, none⟩) hb).trans h.k8, (k.cell (p := ⟨b, _, none⟩) hb).trans h.k9, (k.cell (p := ⟨b, _, none⟩) hb).trans h.k10, h.b0, h.b1, h.b2, h.b3, h.b4, h.b7, h.b8, h.b9, h.b10⟩
def InEv15 (w : World) (v : Option Addr) (l : List Ev15) (b off : Nat) : Prop :=
  l.length ≤ 9223372036854775807 ∧ (0 < l.length → v = some ⟨b, off, none⟩ ∧ b < w.heap.size) ∧ ∀ i, i < l.length → Ev15At w b (off + i * 11) (l.getD i default)

set_option maxRecDepth 100000 in
set_option maxHeartbeats 1000000 in
theorem in_evs {H : Type} {enc : TypeId × Value → H} {w : World} {fuel : Nat} {spare : Nat → Bool} {held : Bool} {v : Option Addr} {len cap : Nat} {x : DataW H × List MemPlace}
    (h : DataW.trod enc Tryd.prog w 0 spare held fuel 25 [.slice v len cap] = some x) : ∃ l b off, l.length = len ∧ InEv15 w v l b off := by
  rcases Go.Deep.open_slice Tryd.underlying25 h with ⟨hcs, _⟩ | ⟨a, len', cap', m, n, D, Pl, hcs, _, hl, hm, hmm, _, hi⟩
  · simp only [List.cons.injEq, Value.slice.injEq, and_true] at hcs
    obtain ⟨rfl, rfl, rfl⟩ := hcs
    exact ⟨[], 0, 0, rfl, by simp, fun h => absurd h (by simp), fun i hi => absurd hi (by simp)⟩
  · simp only [List.cons.injEq, Value.slice.injEq, and_true] at hcs
    obtain ⟨rfl, rfl, rfl⟩ := hcs
    have hlm : len ≤ m := by rw [hmm]; split <;> omega
    have ce : Tryd.prog.cellsOf 36 = 11 := by kernel_rfl
    have c0 : Tryd.prog.cellsOf 22 = 1 := by kernel_rfl
    have c1 : Tryd.prog.cellsOf 34 = 5 := by kernel_rfl
    have c2 : Tryd.prog.cellsOf 4 = 1 := by kernel_rfl
    unfold maxLen at hm
    obtain ⟨b, off, spot⟩ := a
    have hs0 : 0 < len → spot = none := by
      intro hpos
      obtain ⟨cs', h1, _⟩ := hi 0 (by omega)
      rw [ce] at h1
      obtain ⟨_, hlen, hcell⟩ := World.cells?_some h1
      match cs', hlen with
      | [v0, v1, v2, v3, v4, v5, v6, v7, v8, v9, v10], _ =>
        have e0 := hcell 0 (by omega)
        rw [Go.Deep.add_add] at e0
        simpa [Addr.add] using World.cell?_spot e0
    have each : ∀ i, i < len → ∃ q : Ev15, spot = none ∧ b < w.heap.size ∧ Ev15At w b (off + i * 11) q := by
      intro i hlt
      obtain ⟨cs', h1, h2⟩ := hi i (by omega)
      rw [ce] at h1
      obtain ⟨_, hlen, hcell⟩ := World.cells?_some h1
      match cs', hlen with
      | [v0, v1, v2, v3, v4, v5, v6, v7, v8, v9, v10], _ =>
        obtain ⟨xs0, k0, _, _, _, hxl0, hf0⟩ := DataW.trod_struct Tryd.underlying36 h2
        have g0_0 := hf0 0 _ rfl
        have hx0_0 : xs0[0]? = some (xs0[0]'(by rw [hxl0]; decide)) := List.getElem?_eq_getElem _
        rw [hx0_0] at g0_0
        simp [c0] at g0_0
        have g0_1 := hf0 1 _ rfl
        have hx0_1 : xs0[1]? = some (xs0[1]'(by rw [hxl0]; decide)) := List.getElem?_eq_getElem _
        rw [hx0_1] at g0_1
        simp [c1] at g0_1
        have g0_2 := hf0 2 _ rfl
        have hx0_2 : xs0[2]? = some (xs0[2]'(by rw [hxl0]; decide)) := List.getElem?_eq_getElem _
        rw [hx0_2] at g0_2
        simp [c2] at g0_2
        have g0_3 := hf0 3 _ rfl
        have hx0_3 : xs0[3]? = some (xs0[3]'(by rw [hxl0]; decide)) := List.getElem?_eq_getElem _
        rw [hx0_3] at g0_3
        simp [c0] at g0_3
        have g0_4 := hf0 4 _ rfl
        have hx0_4 : xs0[4]? = some (xs0[4]'(by rw [hxl0]; decide)) := List.getElem?_eq_getElem _
        rw [hx0_4] at g0_4
        simp [c0] at g0_4
        have g0_5 := hf0 5 _ rfl
        have hx0_5 : xs0[5]? = some (xs0[5]'(by rw [hxl0]; decide)) := List.getElem?_eq_getElem _
        rw [hx0_5] at g0_5
        simp [c0] at g0_5
        have g0_6 := hf0 6 _ rfl
        have hx0_6 : xs0[6]? = some (xs0[6]'(by rw [hxl0]; decide)) := List.getElem?_eq_getElem _
        rw [hx0_6] at g0_6
        simp [c0] at g0_6
        obtain ⟨z0, hz0, _, hw0⟩ := DataW.trod_int Tryd.underlying22 g0_0
        obtain ⟨b0, b0'⟩ := bounds_u64 hw0
        simp only [List.cons.injEq, and_true] at hz0
        subst hz0
        obtain ⟨xs1, k1, _, _, _, hxl1, hf1⟩ := DataW.trod_struct Tryd.underlying34 g0_1
        have g1_0 := hf1 0 _ rfl
        have hx1_0 : xs1[0]? = some (xs1[0]'(by rw [hxl1]; decide)) := List.getElem?_eq_getElem _
        rw [hx1_0] at g1_0
        simp [c0] at g1_0
        have g1_1 := hf1 1 _ rfl
        have hx1_1 : xs1[1]? = some (xs1[1]'(by rw [hxl1]; decide)) := List.getElem?_eq_getElem _
        rw [hx1_1] at g1_1
        simp [c0] at g1_1
        have g1_2 := hf1 2 _ rfl
        have hx1_2 : xs1[2]? = some (xs1[2]'(by rw [hxl1]; decide)) := List.getElem?_eq_getElem _
        rw [hx1_2] at g1_2
        simp [c0] at g1_2
        have g1_3 := hf1 3 _ rfl
        have hx1_3 : xs1[3]? = some (xs1[3]'(by rw [hxl1]; decide)) := List.getElem?_eq_getElem _
        rw [hx1_3] at g1_3
        simp [c0] at g1_3
        have g1_4 := hf1 4 _ rfl
        have hx1_4 : xs1[4]? = some (xs1[4]'(by rw [hxl1]; decide)) := List.getElem?_eq_getElem _
        rw [hx1_4] at g1_4
        simp [c2] at g1_4
        obtain ⟨z1, hz1, _, hw1⟩ := DataW.trod_int Tryd.underlying22 g1_0
        obtain ⟨b1, b1'⟩ := bounds_u64 hw1
        simp only [List.cons.injEq, and_true] at hz1
        subst hz1
        obtain ⟨z2, hz2, _, hw2⟩ := DataW.trod_int Tryd.underlying22 g1_1
        obtain ⟨b2, b2'⟩ := bounds_u64 hw2
        simp only [List.cons.injEq, and_true] at hz2
        subst hz2
        obtain ⟨z3, hz3, _, hw3⟩ := DataW.trod_int Tryd.underlying22 g1_2
        obtain ⟨b3, b3'⟩ := bounds_u64 hw3
        simp only [List.cons.injEq, and_true] at hz3
        subst hz3
        obtain ⟨z4, hz4, _, hw4⟩ := DataW.trod_int Tryd.underlying22 g1_3
        obtain ⟨b4, b4'⟩ := bounds_u64 hw4
        simp only [List.cons.injEq, and_true] at hz4
        subst hz4
        obtain ⟨z5, hz5, _⟩ := DataW.trod_bool Tryd.underlying4 g1_4
        simp only [List.cons.injEq, and_true] at hz5
        subst hz5
        obtain ⟨z6, hz6, _⟩ := DataW.trod_bool Tryd.underlying4 g0_2
        simp only [List.cons.injEq, and_true] at hz6
        subst hz6
        obtain ⟨z7, hz7, _, hw7⟩ := DataW.trod_int Tryd.underlying22 g0_3
        obtain ⟨b7, b7'⟩ := bounds_u64 hw7
        simp only [List.cons.injEq, and_true] at hz7
        subst hz7
        obtain ⟨z8, hz8, _, hw8⟩ := DataW.trod_int Tryd.underlying22 g0_4
        obtain ⟨b8, b8'⟩ := bounds_u64 hw8
        simp only [List.cons.injEq, and_true] at hz8
        subst hz8
        obtain ⟨z9, hz9, _, hw9⟩ := DataW.trod_int Tryd.underlying22 g0_5
        obtain ⟨b9, b9'⟩ := bounds_u64 hw9
        simp only [List.cons.injEq, and_true] at hz9
        subst hz9
        obtain ⟨z10, hz10, _, hw10⟩ := DataW.trod_int Tryd.underlying22 g0_6
        obtain ⟨b10, b10'⟩ := bounds_u64 hw10
        simp only [List.cons.injEq, and_true] at hz10
        subst hz10
        have e0 := hcell 0 (by omega)
        have e1 := hcell 1 (by omega)
        have e2 := hcell 2 (by omega)
        have e3 := hcell 3 (by omega)
        have e4 := hcell 4 (by omega)
        have e5 := hcell 5 (by omega)
        have e6 := hcell 6 (by omega)
        have e7 := hcell 7 (by omega)
        have e8 := hcell 8 (by omega)
        have e9 := hcell 9 (by omega)
        have e10 := hcell 10 (by omega)
        rw [Go.Deep.add_add] at e0 e1 e2 e3 e4 e5 e6 e7 e8 e9 e10
        have hs := hs0 (by omega)
        subst hs
        rw [Go.WideShapes.add_plain] at e0 e1 e2 e3 e4 e5 e6 e7 e8 e9 e10
        refine ⟨⟨z0.toNat, z1.toNat, z2.toNat, z3.toNat, z4.toNat, z5, z6, z7.toNat, z8.toNat, z9.toNat, z10.toNat⟩, rfl, World.block_lt_of_cell? _ _ e0, ⟨?_, ?_, ?_, ?_, ?_, ?_, ?_, ?_, ?_, ?_, ?_, by dsimp; omega, by dsimp; omega, by dsimp; omega, by dsimp; omega, by dsimp; omega, by dsimp; omega, by dsimp; omega, by dsimp; omega, by dsimp; omega⟩⟩
        · dsimp; rw [Int.toNat_of_nonneg b0]; simpa [Nat.add_assoc] using e0
        · dsimp; rw [Int.toNat_of_nonneg b1]; simpa [Nat.add_assoc] using e1
        · dsimp; rw [Int.toNat_of_nonneg b2]; simpa [Nat.add_assoc] using e2
        · dsimp; rw [Int.toNat_of_nonneg b3]; simpa [Nat.add_assoc] using e3
        · dsimp; rw [Int.toNat_of_nonneg b4]; simpa [Nat.add_assoc] using e4
        · dsimp; simpa [Nat.add_assoc] using e5
        · dsimp; simpa [Nat.add_assoc] using e6
        · dsimp; rw [Int.toNat_of_nonneg b7]; simpa [Nat.add_assoc] using e7
        · dsimp; rw [Int.toNat_of_nonneg b8]; simpa [Nat.add_assoc] using e8
        · dsimp; rw [Int.toNat_of_nonneg b9]; simpa [Nat.add_assoc] using e9
        · dsimp; rw [Int.toNat_of_nonneg b10]; simpa [Nat.add_assoc] using e10
    obtain ⟨q, hq⟩ := Go.Deep.choose_lt each
    refine ⟨(List.range len).map q, b, off, by simp, by simp; omega, fun hpos => ?_, fun i hlt => ?_⟩
    · have hpos' : 0 < len := by simpa using hpos
      obtain ⟨rfl, h2, _⟩ := hq 0 hpos'
      exact ⟨rfl, h2⟩
    · simp only [List.length_map, List.length_range] at hlt
      have e : ((List.range len).map q).getD i default = q i := by simp [List.getD_eq_getElem?_getD, hlt]
      rw [e]
      exact (hq i hlt).2.2
end Go.Proofs.YtpkbjfhicocogaaDoor

/- BbrStuck over this translation: the walk. -/
set_option linter.unusedVariables false
namespace Go.Proofs.YtpkbjfhicocogaaDoor
open Go.RowKit Cf

theorem eq_bounds0 (w : World) : (Op.equalIn 10000 41 (.agg #[.int .u64 0, .int .u64 0, .int .u64 0]) (.agg #[.int .u64 0, .int .u64 0, .int .u64 0])).run Tryd.prog w = .ok true w := by kernel_rfl

set_option maxHeartbeats 1000000 in
theorem stuck_no (v : Option Addr) (n cap : Nat) (c : Setup) (hc : ∀ i, c i ≤ 18446744073709551615) (W : World) (hg : Gl W) (hr : rightC c = false) :
    Calls Tryd.prog 3 #[.agg (ccells c), .slice v n cap] W fun e w' => e = .returned (.bool true) ∧ Below W.heap.size W w' := by
  have HR := Lib.hid (fun w => ref_Right c w)
  have HA := Lib.hid (fun w hg => alive15 w hg)
  have HG := Lib.hid hg
  have N0 : Hid (NewI W c (W.alloc (.cells (ccells c) 24))) := Lib.hid ⟨Blk.new W _ _, al_be _ _⟩
  rw [hr] at HR
  clear hg hr hc
  have HX : Hid (ccells c = #[.int .u64 (c 0 : Int), .int .u64 (c 1 : Int), .int .u64 (c 2 : Int), .int .u64 (c 3 : Int), .int .u64 (c 4 : Int), .int .u64 (c 5 : Int)]) := Lib.hid rfl
  rw [HX.out] at N0 HR ⊢
  go_enter Tryd.func3, Tryd.ntmps3
  go_wp2_with fail
  refine (HR.out _).mono ?_
  rintro e w1 ⟨rfl, hb⟩
  have N1 := ni_k N0 hb
  clear N0 hb HR
  go_wp2_with fail
  refine (HA.out _ (HG.out.keep N1.out.bel)).mono ?_
  rintro e w2 ⟨rfl, hb⟩
  have N2 := ni_k N1 hb
  clear hb N1
  go_wp2_with fail
  go_ret
  exact ⟨rfl, N2.out.bel⟩

set_option maxHeartbeats 1000000 in
theorem stuck_long (v : Option Addr) (n cap : Nat) (c : Setup) (hc : ∀ i, c i ≤ 18446744073709551615) (W : World) (hg : Gl W) (hr : rightC c = true) (hn : 120 < n) :
    Calls Tryd.prog 3 #[.agg (ccells c), .slice v n cap] W fun e w' => e = .returned (.bool true) ∧ Below W.heap.size W w' := by
  have HR := Lib.hid (fun w => ref_Right c w)
  have HA := Lib.hid (fun w hg => alive15 w hg)
  have HG := Lib.hid hg
  have N0 : Hid (NewI W c (W.alloc (.cells (ccells c) 24))) := Lib.hid ⟨Blk.new W _ _, al_be _ _⟩
  rw [hr] at HR
  have d0 : decide ((120 : Int) < (n : Int)) = true := decide_eq_true (by omega)
  have d1 : decide (120 < n) = true := decide_eq_true (by omega)
  clear hn
  clear hg hr hc
  have HX : Hid (ccells c = #[.int .u64 (c 0 : Int), .int .u64 (c 1 : Int), .int .u64 (c 2 : Int), .int .u64 (c 3 : Int), .int .u64 (c 4 : Int), .int .u64 (c 5 : Int)]) := Lib.hid rfl
  rw [HX.out] at N0 HR ⊢
  go_enter Tryd.func3, Tryd.ntmps3
  go_wp2_with fail
  refine (HR.out _).mono ?_
  rintro e w1 ⟨rfl, hb⟩
  have N1 := ni_k N0 hb
  clear N0 hb HR
  go_wp2_with fail
  refine (HA.out _ (HG.out.keep N1.out.bel)).mono ?_
  rintro e w2 ⟨rfl, hb⟩
  have N2 := ni_k N1 hb
  clear hb N1
  go_wp2_with fail
  go_ret
  exact ⟨rfl, N2.out.bel⟩

/-- What holds of the engine at the head of each round. -/
def StRel (V : World) (c : Setup) (P : EP) (n k : Nat) (wr : World) : Prop := k ≤ n ∧ ∃ s : ES, s.ok k ∧ s.c = c ∧ EngAt wr V.heap.size P s ∧ Below V.heap.size V wr
def Ev15.ev (q : Ev15) : EvS := ⟨q.now, q.sd, q.si, q.sr, q.rt, q.sl, q.sm, q.dl, q.ac, q.lo, q.fl⟩
theorem Ev15At.ok {w : World} {b o : Nat} {q : Ev15} (h : Ev15At w b o q) : q.ev.ok := ⟨h.b0, h.b1, h.b2, h.b3, h.b4, h.b7, h.b8, h.b9, h.b10⟩

set_option maxHeartbeats 4000000 in
set_option maxRecDepth 100000 in
theorem stuck_few (v : Option Addr) (cap b off : Nat) (l : List Ev15) (c : Setup) (hc : ∀ i, c i ≤ 18446744073709551615) (W : World) (hg : Gl W) (h : InEv15 W v l b off) (hr : rightC c = true) (hn : l.length ≤ 120) :
    Calls Tryd.prog 3 #[.agg (ccells c), .slice v l.length cap] W fun e w' => e = .returned (.bool true) ∧ Below W.heap.size W w' := by
  have HR := Lib.hid (fun w => ref_Right c w)
  have HA := Lib.hid (fun w hg => alive15 w hg)
  have HN := Lib.hid (fun w hg => en_New_ok c hc hr w hg)
  have HI := Lib.hid h
  have HG := Lib.hid hg
  have HOk := Lib.hid (ES.new_ok hc)
  have HM := Lib.hid (right_mss hr)
  have HRt := Lib.hid hr
  have HLn := Lib.hid hn
  have N0 : Hid (NewI W c (W.alloc (.cells (ccells c) 24))) := Lib.hid ⟨Blk.new W _ _, al_be _ _⟩
  have heq := eq_bounds0
  rw [hr] at HR
  have d0 : decide ((120 : Int) < (l.length : Int)) = false := decide_eq_false (by omega)
  have d1 : decide (120 < l.length) = false := decide_eq_false (by omega)
  have r0 := ni_r (W := W) (c := c) (i := 0) (v := .int .u64 (c 0 : Int)) rfl
  have r1 := ni_r (W := W) (c := c) (i := 1) (v := .int .u64 (c 1 : Int)) rfl
  have r2 := ni_r (W := W) (c := c) (i := 2) (v := .int .u64 (c 2 : Int)) rfl
  have r3 := ni_r (W := W) (c := c) (i := 3) (v := .int .u64 (c 3 : Int)) rfl
  have r4 := ni_r (W := W) (c := c) (i := 4) (v := .int .u64 (c 4 : Int)) rfl
  have r5 := ni_r (W := W) (c := c) (i := 5) (v := .int .u64 (c 5 : Int)) rfl
  clear hg hr hc hn h
  have HX : Hid (ccells c = #[.int .u64 (c 0 : Int), .int .u64 (c 1 : Int), .int .u64 (c 2 : Int), .int .u64 (c 3 : Int), .int .u64 (c 4 : Int), .int .u64 (c 5 : Int)]) := Lib.hid rfl
  rw [HX.out] at N0 HR HN ⊢
  go_enter Tryd.func3, Tryd.ntmps3
  go_wp2_with fail
  refine (HR.out _).mono ?_
  rintro e w1 ⟨rfl, hb⟩
  have N1 := ni_k N0 hb
  clear N0 hb HR
  go_wp2_with fail
  refine (HN.out _ (HG.out.keep N1.out.bel)).mono ?_
  rintro e w2 hp
  obtain ⟨P, rfl, hE⟩ := hp.at_
  have E2 := Lib.hid hE
  have B2 := Lib.hid hp.bel
  clear hp hE HN
  go_wp2_with fail
  clear d0 d1
  go_loopw [8] (fun i wr => ∃ k : Nat, i = .int .i64 (k : Int) ∧ StRel w1 c P l.length k wr) (fun i _ => l.length - (intOf i).toNat)
  case atStart => exact ⟨0, rfl, Nat.zero_le _, ES.new c, HOk.out, rfl, E2.out, B2.out⟩
  case round =>
    obtain ⟨k, rfl, hk, s, hok, hsc, hE, hB⟩ := hrel
    have E3 := Lib.hid hE
    have B3 := Lib.hid hB
    have BW := Lib.hid (N1.out.bel.trans (hB.mono N1.out.bel.size))
    clear hE hB E2 B2
    by_cases hlt : k < l.length
    · obtain ⟨rfl, hb0⟩ := HI.out.2.1 (by omega)
      have HQ := Lib.hid (HI.out.2.2 k hlt)
      have i0 : (0 : Int) ≤ (k : Int) := by omega
      have i1 : (k : Int) < (l.length : Int) := by omega
      have hk9 : k ≤ 900 := by have := HLn.out; omega
      generalize l.getD k default = q at *
      have Q1 := HQ.out.keep hb0 BW.out
      have HO := Lib.hid (fun w h => en_On (B := w1.heap.size) (P := P) (s := s) q.ev HQ.out.ok w h hok hk9)
      have ok1 := ES.on_ok hok HQ.out.ok hk9
      have hF := on_free hok (by rw [hsc]; exact HRt.out) HQ.out.ok hk9
      have hc1 := (ES.on_c s q.ev).trans hsc
      rw [hsc] at hF
      generalize s.on q.ev = s' at *
      unfold EvS.val EvS.cells Ev15.ev at HO
      have x0 := Q1.k0
      have x1 := Q1.k1
      have x2 := Q1.k2
      have x3 := Q1.k3
      have x4 := Q1.k4
      have x5 := Q1.k5
      have x6 := Q1.k6
      have x7 := Q1.k7
      have x8 := Q1.k8
      have x9 := Q1.k9
      have x10 := Q1.k10
      clear Q1 hb0 hok hsc
      go_wp2_with fail
      refine (HO.out _ E3.out).mono ?_
      rintro e w3 h1
      obtain rfl := h1.e
      have E4 := Lib.hid h1.at_
      have B4 := Lib.hid (B3.out.trans h1.bel)
      clear h1 HO E3 B3 BW
      clear x0
      clear x1
      clear x2
      clear x3
      clear x4
      clear x5
      clear x6
      clear x7
      clear x8
      clear x9
      clear x10
      have hm := HM.out
      have w4 : IntKind.u64.wrap (4 * (c 0 : Int)) = ((c 0 * 4 : Nat) : Int) := by rw [IntKind.wrap_u64]; omega
      have w5 : IntKind.u64.wrap (2 * (c 0 : Int)) = ((c 0 * 2 : Nat) : Int) := by rw [IntKind.wrap_u64]; omega
      have w6 : IntKind.u64.wrap (64 * (c 0 : Int)) = ((c 0 * 64 : Nat) : Int) := by rw [IntKind.wrap_u64]; omega
      have HCw := Lib.hid (fun w h => en_Cwnd (B := w1.heap.size) (P := P) (s := s') w h)
      have HPa := Lib.hid (fun w h => en_Pace (B := w1.heap.size) (P := P) (s := s') w h ok1)
      have HQu := Lib.hid (fun w h => en_Quantum (B := w1.heap.size) (P := P) (s := s') w h ok1)
      have HSt := Lib.hid (fun w h => en_State (B := w1.heap.size) (P := P) (s := s') w h)
      have hf1 := hF.cl
      have hf2 := hF.pl
      have hf3 := hF.ql
      have hf4 := hF.qm
      have hf5 := hF.pm
      have hf6 := hF.cm
      have hf7 := hF.st
      have HF := Lib.hid hF
      have OK1 := Lib.hid ok1
      have HC1 := Lib.hid hc1
      clear hF ok1 hc1 hm
      generalize s'.cwnd = cw at *
      generalize s'.pace = pa at *
      generalize s'.quant = qu at *
      generalize s'.st = st at *
      generalize c 0 * 4 = l4 at *
      generalize c 0 * 2 = l2 at *
      generalize c 0 * 64 = l64 at *
      have t1 : decide (cw < l4) = false := decide_eq_false (by omega)
      have t2 : decide (pa < l4) = false := decide_eq_false (by omega)
      have t3 : decide (qu < l2) = false := decide_eq_false (by omega)
      have t4 : decide (l64 < qu) = false := decide_eq_false (by omega)
      have t5 : decide ((1099511627776 : Int) < (pa : Int)) = false := decide_eq_false (by omega)
      have t6 : decide ((72057594037927936 : Int) < (cw : Int)) = false := decide_eq_false (by omega)
      have t7 : decide (st < 0) = false := decide_eq_false (by omega)
      have t8 : decide (6 < st) = false := decide_eq_false (by omega)
      have u1 : decide ((cw : Int) < (l4 : Int)) = false := decide_eq_false (by omega)
      have u2 : decide ((pa : Int) < (l4 : Int)) = false := decide_eq_false (by omega)
      have u3 : decide ((qu : Int) < (l2 : Int)) = false := decide_eq_false (by omega)
      have u4 : decide ((l64 : Int) < (qu : Int)) = false := decide_eq_false (by omega)
      clear hf1 hf2 hf3 hf4 hf5 hf6 hf7
      have I4 := Lib.hid (EngI.start E4.out).drew
      have xb := (N1.out.b.below (B := w1.heap.size) B4.out (N1.out.b.lt)).cell (i := 0) (v := .int .u64 (c 0 : Int)) rfl
      have rb : ∀ w, Hid (EngI w3 w1.heap.size P s' w) → w.cell? ⟨W.heap.size, 0, none⟩ = some (.int .u64 (c 0 : Int)) := fun w q => (q.out.bel.cell (p := ⟨W.heap.size, 0, none⟩) (World.block_lt_of_cell? _ _ xb)).trans xb
      go_wp2_with fail
      go_region_held3 (fun w' => Hid (EngI w3 w1.heap.size P s' w'))
        (first | with_reducible exact I4 | with_reducible exact ei_k (by assumption) hb)
        (first
          | (go_at_call 9; (with_reducible refine (HCw.out _ (Hid.out (by assumption) : EngI w3 w1.heap.size P s' _).at_).mono ?_); rintro e w' ⟨rfl, hb⟩)
          | (go_at_call 10; (with_reducible refine (HPa.out _ (Hid.out (by assumption) : EngI w3 w1.heap.size P s' _).at_).mono ?_); rintro e w' ⟨rfl, hb⟩)
          | (go_at_call 11; (with_reducible refine (HQu.out _ (Hid.out (by assumption) : EngI w3 w1.heap.size P s' _).at_).mono ?_); rintro e w' ⟨rfl, hb⟩)
          | (go_at_call 12; (with_reducible refine (HSt.out _ (Hid.out (by assumption) : EngI w3 w1.heap.size P s' _).at_).mono ?_); rintro e w' ⟨rfl, hb⟩))
      have I5 : Hid (EngI w3 w1.heap.size P s' w') := by assumption
      go_wp2_with fail
      go_roundw
      case rel => exact ⟨k + 1, by go_num, by omega, s', OK1.out, HC1.out, I5.out.at_, bel_to B4.out I5.out.bel B4.out.size⟩
      case measure => simp [intOf]; omega
    · clear hok hsc
      go_wp2_with fail
      refine (en_On_nil _).mono ?_
      rintro e w3 ⟨rfl, hb⟩
      have B5 := Lib.hid (bel_to BW.out hb BW.out.size)
      clear hb BW E3 B3
      go_wp2_with fail
      refine (HA.out _ (HG.out.keep B5.out)).mono ?_
      rintro e w4 ⟨rfl, hb⟩
      have B6 := Lib.hid (bel_to B5.out hb B5.out.size)
      clear hb B5
      go_wp2_with fail
      refine (en_State_nil _).mono ?_
      rintro e w5 ⟨rfl, hb⟩
      have B7 := Lib.hid (bel_to B6.out hb B6.out.size)
      clear hb B6
      go_wp2_with fail
      refine (en_Cwnd_nil _).mono ?_
      rintro e w6 ⟨rfl, hb⟩
      have B8 := Lib.hid (bel_to B7.out hb B7.out.size)
      clear hb B7
      go_wp2_with fail
      refine (en_Pace_nil _).mono ?_
      rintro e w7 ⟨rfl, hb⟩
      have B9 := Lib.hid (bel_to B8.out hb B8.out.size)
      clear hb B8
      go_wp2_with fail
      refine (en_Quantum_nil _).mono ?_
      rintro e w8 ⟨rfl, hb⟩
      have B10 := Lib.hid (bel_to B9.out hb B9.out.size)
      clear hb B9
      go_wp2_with fail
      refine (en_Least_nil _).mono ?_
      rintro e w9 ⟨rfl, hb⟩
      have B11 := Lib.hid (bel_to B10.out hb B10.out.size)
      clear hb B10
      go_wp2_with fail
      refine (en_Best_nil _).mono ?_
      rintro e w10 ⟨rfl, hb⟩
      have B12 := Lib.hid (bel_to B11.out hb B11.out.size)
      clear hb B11
      go_wp2_with fail
      refine (en_Limits_nil _).mono ?_
      rintro e w11 ⟨rfl, hb⟩
      have B13 := Lib.hid (bel_to B12.out hb B12.out.size)
      clear hb B12
      go_wp2_with fail
      go_ret
      exact ⟨rfl, B13.out⟩

theorem BbrStuck_walk (v : Option Addr) (len cap : Nat) (c : Setup) (l : List Ev15) (b off : Nat) (W : World) (hc : ∀ k, c k ≤ 18446744073709551615) (h : l.length = len ∧ InEv15 W v l b off) (hg : Gl W) :
    Calls Tryd.prog 3 #[.agg (ccells c), .slice v len cap] W fun e w' => e = .returned (.bool true) ∧ Below W.heap.size W w' := by
  obtain ⟨rfl, h⟩ := h
  cases hr : rightC c with
  | false => exact stuck_no v _ cap c hc W hg hr
  | true =>
    by_cases hn : 120 < l.length
    · exact stuck_long v _ cap c hc W hg hr hn
    · exact stuck_few v cap b off l c hc W hg h hr (by omega)
end Go.Proofs.YtpkbjfhicocogaaDoor
