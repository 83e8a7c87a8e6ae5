/- A row of acts that came in, as a list, over this translation; whether they are few. -/
import Derived.Test.YtmkgbpfifdiniaaIn10a
set_option linter.unusedVariables false
namespace Go.Proofs.Ytmkgbpfifdiniaa
open Go.ChangeShapes Go.WideShapes Go.ChangeAt Go.RowKit

/-- An act. -/
structure Ac where
  kind : Nat
  now : Nat
  n : Nat
  p : Option Addr
  c : Nat
  l : List Pk
instance : Inhabited Ac := ⟨⟨0, 0, 0, none, 0, []⟩⟩
structure AcAt (w : World) (b o : Nat) (q : Ac) : Prop where
  k0 : w.cell? ⟨b, o, none⟩ = some (.int .u8 (q.kind : Int))
  k1 : w.cell? ⟨b, o + 1, none⟩ = some (.int .u64 (q.now : Int))
  k2 : w.cell? ⟨b, o + 2, none⟩ = some (.int .u64 (q.n : Int))
  k3 : w.cell? ⟨b, o + 3, none⟩ = some (.slice q.p q.l.length q.c)
  b0 : q.kind ≤ 255
  b1 : q.now ≤ 18446744073709551615
  b2 : q.n ≤ 18446744073709551615
  b3 : InPks w q.p q.l.length q.c q.l
def InActs (w : World) (v : Option Addr) (l : List Ac) (b off : Nat) : Prop :=
  l.length ≤ 9223372036854775807 ∧ (0 < l.length → v = some ⟨b, off, none⟩ ∧ b < w.heap.size) ∧ ∀ i, i < l.length → AcAt w b (off + i * 4) (l.getD i default)

set_option maxRecDepth 100000 in
theorem in_acts {H : Type} {enc : TypeId × Value → H} {w : World} {fuel : Nat} {spare : Nat → Bool} {held : Bool} {v : Option Addr} {len cap : Nat} {x : DataW H × List MemPlace}
    (h : DataW.trod enc Try.prog w 0 spare held fuel 22 [.slice v len cap] = some x) : ∃ l b off, l.length = len ∧ InActs w v l b off := by
  rcases Go.Deep.open_slice Try.underlying22 h with ⟨hcs, _⟩ | ⟨a, len', cap', m, n, D, Pl, hcs, _, hl, hm, hmm, _, hi⟩
  · simp only [List.cons.injEq, Value.slice.injEq, and_true] at hcs
    obtain ⟨rfl, rfl, rfl⟩ := hcs
    exact ⟨[], 0, 0, rfl, by simp, fun h => absurd h (by simp), fun i hi => absurd hi (by simp)⟩
  · simp only [List.cons.injEq, Value.slice.injEq, and_true] at hcs
    obtain ⟨rfl, rfl, rfl⟩ := hcs
    have hlm : len ≤ m := by rw [hmm]; split <;> omega
    have ce : Try.prog.cellsOf 30 = 4 := by kernel_rfl
    have c0 : Try.prog.cellsOf 5 = 1 := by kernel_rfl
    have c1 : Try.prog.cellsOf 27 = 1 := by kernel_rfl
    have c2 : Try.prog.cellsOf 28 = 1 := by kernel_rfl
    unfold maxLen at hm
    obtain ⟨b, off, spot⟩ := a
    have hs0 : 0 < len → spot = none := by
      intro hpos
      obtain ⟨cs', h1, _⟩ := hi 0 (by omega)
      rw [ce] at h1
      obtain ⟨_, hlen, hcell⟩ := World.cells?_some h1
      match cs', hlen with
      | [v0, v1, v2, v3], _ =>
        have e0 := hcell 0 (by omega)
        rw [Go.Deep.add_add] at e0
        simpa [Addr.add] using World.cell?_spot e0
    have each : ∀ i, i < len → ∃ q : Ac, spot = none ∧ b < w.heap.size ∧ AcAt w b (off + i * 4) q := by
      intro i hlt
      obtain ⟨cs', h1, h2⟩ := hi i (by omega)
      rw [ce] at h1
      obtain ⟨_, hlen, hcell⟩ := World.cells?_some h1
      obtain ⟨xs, k, _, _, _, hxl, hf⟩ := DataW.trod_struct Try.underlying30 h2
      match cs', hlen with
      | [v0, v1, v2, v3], _ =>
        have g0 := hf 0 _ rfl
        have g1 := hf 1 _ rfl
        have g2 := hf 2 _ rfl
        have g3 := hf 3 _ rfl
        have hx0 : xs[0]? = some (xs[0]'(by rw [hxl]; decide)) := List.getElem?_eq_getElem _
        have hx1 : xs[1]? = some (xs[1]'(by rw [hxl]; decide)) := List.getElem?_eq_getElem _
        have hx2 : xs[2]? = some (xs[2]'(by rw [hxl]; decide)) := List.getElem?_eq_getElem _
        have hx3 : xs[3]? = some (xs[3]'(by rw [hxl]; decide)) := List.getElem?_eq_getElem _
        rw [hx0] at g0
        rw [hx1] at g1
        rw [hx2] at g2
        rw [hx3] at g3
        simp [c0, c1, c2] at g0 g1 g2 g3
        obtain ⟨z0, hz0, _, hw0⟩ := DataW.trod_int Try.underlying5 g0
        obtain ⟨z1, hz1, _, hw1⟩ := DataW.trod_int Try.underlying27 g1
        obtain ⟨z2, hz2, _, hw2⟩ := DataW.trod_int Try.underlying27 g2
        have e3 : ∃ p n c l, v3 = .slice p n c ∧ InPks w p n c l := by
          rcases Go.Deep.open_slice Try.underlying28 g3 with ⟨hcs, _⟩ | ⟨a', len', cap', m', n', D', Pl', hcs, _⟩
          · simp only [List.cons.injEq, and_true] at hcs
            subst hcs
            obtain ⟨l, hl⟩ := in_pks g3
            exact ⟨_, _, _, l, rfl, hl⟩
          · simp only [List.cons.injEq, and_true] at hcs
            subst hcs
            obtain ⟨l, hl⟩ := in_pks g3
            exact ⟨_, _, _, l, rfl, hl⟩
        obtain ⟨p3, n3, c3, l3, rfl, hi3⟩ := e3
        obtain rfl := hi3.1
        simp only [List.cons.injEq, and_true] at hz0 hz1 hz2
        subst hz0 hz1 hz2
        have e0 := hcell 0 (by omega)
        have e1 := hcell 1 (by omega)
        have e2 := hcell 2 (by omega)
        have e3 := hcell 3 (by omega)
        rw [Go.Deep.add_add] at e0 e1 e2 e3
        have hs := hs0 (by omega)
        subst hs
        rw [Go.WideShapes.add_plain] at e0 e1 e2 e3
        obtain ⟨b0, b0'⟩ := bounds_u8 hw0
        obtain ⟨b1, b1'⟩ := bounds_u64 hw1
        obtain ⟨b2, b2'⟩ := bounds_u64 hw2
        refine ⟨⟨z0.toNat, z1.toNat, z2.toNat, p3, c3, l3⟩, rfl, World.block_lt_of_cell? _ _ e0, ⟨?_, ?_, ?_, ?_, by dsimp; omega, by dsimp; omega, by dsimp; omega, hi3⟩⟩
        · dsimp; rw [Int.toNat_of_nonneg b0]; simpa using e0
        · dsimp; rw [Int.toNat_of_nonneg b1]; simpa [Nat.add_assoc] using e1
        · dsimp; rw [Int.toNat_of_nonneg b2]; simpa [Nat.add_assoc] using e2
        · dsimp; simpa [Nat.add_assoc] using e3
    obtain ⟨q, hq⟩ := Go.Deep.choose_lt each
    refine ⟨(List.range len).map q, b, off, by simp, by simp; omega, fun hpos => ?_, fun i hlt => ?_⟩
    · have hpos' : 0 < len := by simpa using hpos
      obtain ⟨rfl, h2, _⟩ := hq 0 hpos'
      exact ⟨rfl, h2⟩
    · simp only [List.length_map, List.length_range] at hlt
      have e : ((List.range len).map q).getD i default = q i := by simp [List.getD_eq_getElem?_getD, hlt]
      rw [e]
      exact (hq i hlt).2.2
theorem InPks.keep {w w' : World} {p : Option Addr} {n c : Nat} {l : List Pk} (h : InPks w p n c l) (k : Below w.heap.size w w') : InPks w' p n c l := ⟨h.1, h.2.1, h.2.2.1, h.2.2.2.1.keep k, h.2.2.2.2⟩
theorem AcAt.keep {w w' : World} {b o : Nat} {q : Ac} (h : AcAt w b o q) (hb : b < w.heap.size) (k : Below w.heap.size w w') : AcAt w' b o q :=
  ⟨(k.cell (p := ⟨b, _, none⟩) hb).trans h.k0, (k.cell (p := ⟨b, _, none⟩) hb).trans h.k1, (k.cell (p := ⟨b, _, none⟩) hb).trans h.k2, (k.cell (p := ⟨b, _, none⟩) hb).trans h.k3, h.b0, h.b1, h.b2, h.b3.keep k⟩
/-- Whether acts are few, and of few packets each. -/
def fitsB (l : List Ac) : Bool := decide (l.length ≤ 100) && l.all fun q => decide (q.l.length ≤ 100)

set_option maxHeartbeats 1000000 in
theorem fits_any (l : List Ac) (v : Option Addr) (c b off : Nat) (W : World) (h : InActs W v l b off) :
    Calls Try.prog 4 #[.slice v l.length c] W fun e w' => e = .returned (.bool (fitsB l)) ∧ w' = W := by
  obtain ⟨h1, h2, h3⟩ := h
  have H3 := Lib.hid h3
  have H2 := Lib.hid h2
  clear h3 h2
  go_enter Try.func4, Try.ntmps4
  go_wp2
  go_loop [3] (fun i => ∃ k : Nat, i = .int .i64 (k : Int) ∧ k ≤ l.length ∧ k ≤ 101 ∧ ∀ j, j < k → (l.getD j default).l.length ≤ 100) (fun i => 101 - (intOf i).toNat)
  case atStart => exact ⟨0, rfl, Nat.zero_le _, by omega, fun j hj => absurd hj (by omega)⟩
  case round =>
    obtain ⟨k, rfl, hk, hk1, hall⟩ := hrel
    have HA := Lib.hid hall
    clear hall
    by_cases hlt : k < l.length
    · by_cases hk2 : k ≤ 100
      · obtain ⟨rfl, hb⟩ := H2.out (by omega)
        have A := H3.out k hlt
        have a3 := A.k3
        have hr : (l.getD k default).l.length ≤ 9223372036854775807 := by have := A.b3; have a1 := this.2.1; have a2 := this.2.2.1; omega
        have i0 : (0 : Int) ≤ (k : Int) := by omega
        have i1 : (k : Int) < (l.length : Int) := by omega
        have hd1 : decide ((k : Int) ≤ 100) = true := by simp; omega
        clear A
        by_cases hl : (l.getD k default).l.length ≤ 100
        · have HL := Lib.hid hl
          generalize hq : (l.getD k default).l.length = n at *
          have HQ := Lib.hid hq
          clear hq
          have hd2 : decide ((100 : Int) < (n : Int)) = false := by simp; omega
          go_wp2
          go_round
          case rel => exact ⟨k + 1, by go_num, by omega, by omega, fun j hj => by
            by_cases e : j = k
            · subst e; rw [HQ.out]; exact hl
            · exact HA.out j (by omega)⟩
          case measure => simp [intOf]; omega
        · have HF : Hid (fitsB l = false) := Lib.hid (by
            unfold fitsB
            rw [Bool.and_eq_false_iff]
            right
            rw [List.all_eq_false]
            refine ⟨l.getD k default, ?_, by simpa using hl⟩
            simp [List.getD_eq_getElem?_getD, hlt])
          generalize (l.getD k default).l.length = n at *
          have hd2 : decide ((100 : Int) < (n : Int)) = true := by simp; omega
          go_wp2
          go_ret
          exact ⟨by rw [HF.out]; rfl, rfl⟩
      · have hd1 : decide ((k : Int) ≤ 100) = false := by simp; omega
        have hd2 : decide ((l.length : Int) ≤ 100) = false := by simp; omega
        have HF : Hid (fitsB l = false) := Lib.hid (by
          unfold fitsB
          rw [Bool.and_eq_false_iff]
          left
          simp; omega)
        go_wp2
        go_ret
        exact ⟨by rw [HF.out]; rfl, rfl⟩
    · obtain rfl : k = l.length := by omega
      have HF : Hid (fitsB l = decide ((l.length : Int) ≤ 100)) := Lib.hid (by
        unfold fitsB
        have e : l.all (fun q => decide (q.l.length ≤ 100)) = true := by
          rw [List.all_eq_true]
          intro q hq
          obtain ⟨i, hi, rfl⟩ := List.mem_iff_getElem.1 hq
          have := HA.out i hi
          simp [List.getD_eq_getElem?_getD, hi] at this
          simpa using this
        rw [e, Bool.and_true]
        exact decide_eq_decide.2 (by omega))
      go_wp2
      go_ret
      exact ⟨by rw [HF.out]; rfl, rfl⟩
end Go.Proofs.Ytmkgbpfifdiniaa
