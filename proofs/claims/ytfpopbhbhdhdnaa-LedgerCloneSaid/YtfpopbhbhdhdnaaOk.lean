/- A row of acts that came in, as a list, over this translation.
   The live question of goitlaw08, over this translation. -/
import Derived.Test.YtfpopbhbhdhdnaaOj
import Derived.Deep.SlicePairs
import Derived.ProofKit
import Derived.OpenShut
set_option linter.unusedVariables false
namespace Go.Proofs.Ytfpopbhbhdhdnaa
open Go.ChangeShapes Go.WideShapes Go.ChangeAt Go.RowKit

/-- A slice of ranges that came in. -/
def InRngs (w : World) (v : Option Addr) (len : Nat) (l : List Rn) : Prop := l.length = len ∧ len ≤ 9223372036854775807 ∧ Its w v l ∧ ∀ r ∈ l, r.u64

theorem in_rngs {H : Type} {enc : TypeId × Value → H} {w : World} {fuel : Nat} {spare : Nat → Bool} {held : Bool} {v : Option Addr} {len cap : Nat} {x : DataW H × List MemPlace}
    (h : DataW.trod enc Try.prog w 0 spare held fuel 30 [.slice v len cap] = some x) : ∃ l, InRngs w v len l := by
  rcases Go.Deep.open_slice_pairs Try.underlying30 Try.underlying56 (by kernel_rfl) rfl rfl (by kernel_rfl) (by kernel_rfl) h with ⟨hcs, _⟩ | ⟨a, len', cap', m, n, V0, V1, D0, D1, P0, P1, hcs, _, hl, hm, hmm, _, hi⟩
  · simp only [List.cons.injEq, Value.slice.injEq, and_true] at hcs
    obtain ⟨rfl, rfl, rfl⟩ := hcs
    exact ⟨[], rfl, by omega, Its.none _ _, fun r hr => by cases hr⟩
  · simp only [List.cons.injEq, Value.slice.injEq, and_true] at hcs
    obtain ⟨rfl, rfl, rfl⟩ := hcs
    have hlm : len ≤ m := by rw [hmm]; split <;> omega
    unfold maxLen at hm
    have each : ∀ i, i < len → ∃ q : Rn, w.cell? (a.add (i * 2)) = some (.int .u64 (q.a : Int)) ∧ w.cell? (a.add (i * 2 + 1)) = some (.int .u64 (q.b : Int)) ∧ q.u64 := by
      intro i hlt
      obtain ⟨c0, c1, t0, t1⟩ := hi i (by omega)
      obtain ⟨y, hy, _, hwy⟩ := DataW.trod_int Try.underlying22 t0
      obtain ⟨z, hz, _, hw⟩ := DataW.trod_int Try.underlying22 t1
      simp only [List.cons.injEq, and_true] at hy hz
      obtain ⟨y0, y1⟩ := bounds_u64 hwy
      obtain ⟨z0, z1⟩ := bounds_u64 hw
      refine ⟨⟨y.toNat, z.toNat⟩, ?_, ?_, ⟨by show y.toNat ≤ _; omega, by show z.toNat ≤ _; omega⟩⟩
      · rw [c0, hy]; dsimp; rw [Int.toNat_of_nonneg y0]
      · rw [c1, hz]; dsimp; rw [Int.toNat_of_nonneg z0]
    obtain ⟨q, hq⟩ := Go.Deep.choose_lt each
    obtain ⟨b, off, spot⟩ := a
    have e : ∀ i, i < len → ((List.range len).map q).getD i Itm.z = q i := fun i hlt => by simp [List.getD_eq_getElem?_getD, hlt]
    refine ⟨(List.range len).map q, by simp, by omega, fun hpos => ?_, fun r hr => ?_⟩
    · have hpos' : 0 < len := by simpa using hpos
      have h0 := (hq 0 hpos').1
      have hs : spot = none := by simpa [Addr.add] using World.cell?_spot h0
      subst hs
      refine ⟨b, off, rfl, by have := World.block_lt_of_cell? _ _ h0; simpa [Addr.add] using this, fun i j hi hj => ?_⟩
      have hi' : i < len := by simpa using hi
      have k2 : Itm.k Rn = 2 := rfl
      rw [k2] at hj ⊢
      rw [e i hi']
      obtain ⟨a0, a1, _⟩ := hq i hi'
      rw [Go.WideShapes.add_plain] at a0 a1
      match j, hj with
      | 0, _ => exact a0
      | 1, _ => exact a1
    · obtain ⟨i, hi, rfl⟩ := List.mem_map.1 hr
      exact (hq i (by simpa using hi)).2.2

/-- An act. -/
structure Ac where
  kind : Nat
  size : Nat
  at_ : Nat
  p : Option Addr
  c : Nat
  r : List Rn
  delay : Nat
  limit : Nat
instance : Inhabited Ac := ⟨⟨0, 0, 0, none, 0, [], 0, 0⟩⟩
structure AcAt (w : World) (b o : Nat) (q : Ac) : Prop where
  k0 : w.cell? ⟨b, o, none⟩ = some (.int .u8 (q.kind : Int))
  k1 : w.cell? ⟨b, o + 1, none⟩ = some (.int .u64 (q.size : Int))
  k2 : w.cell? ⟨b, o + 2, none⟩ = some (.int .u64 (q.at_ : Int))
  k3 : w.cell? ⟨b, o + 3, none⟩ = some (.slice q.p q.r.length q.c)
  k4 : w.cell? ⟨b, o + 4, none⟩ = some (.int .u64 (q.delay : Int))
  k5 : w.cell? ⟨b, o + 5, none⟩ = some (.int .u64 (q.limit : Int))
  b0 : q.kind ≤ 255
  b1 : q.size ≤ 18446744073709551615
  b2 : q.at_ ≤ 18446744073709551615
  b3 : q.r.length ≤ 9223372036854775807 ∧ Its w q.p q.r ∧ ∀ r ∈ q.r, r.u64
  b4 : q.delay ≤ 18446744073709551615
  b5 : q.limit ≤ 18446744073709551615
def InActs (w : World) (v : Option Addr) (l : List Ac) (b off : Nat) : Prop :=
  l.length ≤ 9223372036854775807 ∧ (0 < l.length → v = some ⟨b, off, none⟩ ∧ b < w.heap.size) ∧ ∀ i, i < l.length → AcAt w b (off + i * 6) (l.getD i default)

set_option maxRecDepth 100000 in
theorem in_acts {H : Type} {enc : TypeId × Value → H} {w : World} {fuel : Nat} {spare : Nat → Bool} {held : Bool} {v : Option Addr} {len cap : Nat} {x : DataW H × List MemPlace}
    (h : DataW.trod enc Try.prog w 0 spare held fuel 23 [.slice v len cap] = some x) : ∃ l b off, l.length = len ∧ InActs w v l b off := by
  rcases Go.Deep.open_slice Try.underlying23 h with ⟨hcs, _⟩ | ⟨a, len', cap', m, n, D, Pl, hcs, _, hl, hm, hmm, _, hi⟩
  · simp only [List.cons.injEq, Value.slice.injEq, and_true] at hcs
    obtain ⟨rfl, rfl, rfl⟩ := hcs
    exact ⟨[], 0, 0, rfl, by simp, fun h => absurd h (by simp), fun i hi => absurd hi (by simp)⟩
  · simp only [List.cons.injEq, Value.slice.injEq, and_true] at hcs
    obtain ⟨rfl, rfl, rfl⟩ := hcs
    have hlm : len ≤ m := by rw [hmm]; split <;> omega
    have ce : Try.prog.cellsOf 32 = 6 := by kernel_rfl
    have c0 : Try.prog.cellsOf 5 = 1 := by kernel_rfl
    have c1 : Try.prog.cellsOf 22 = 1 := by kernel_rfl
    have c2 : Try.prog.cellsOf 30 = 1 := by kernel_rfl
    unfold maxLen at hm
    obtain ⟨b, off, spot⟩ := a
    have hs0 : 0 < len → spot = none := by
      intro hpos
      obtain ⟨cs', h1, _⟩ := hi 0 (by omega)
      rw [ce] at h1
      obtain ⟨_, hlen, hcell⟩ := World.cells?_some h1
      match cs', hlen with
      | [v0, v1, v2, v3, v4, v5], _ =>
        have e0 := hcell 0 (by omega)
        rw [Go.Deep.add_add] at e0
        simpa [Addr.add] using World.cell?_spot e0
    have each : ∀ i, i < len → ∃ q : Ac, spot = none ∧ b < w.heap.size ∧ AcAt w b (off + i * 6) q := by
      intro i hlt
      obtain ⟨cs', h1, h2⟩ := hi i (by omega)
      rw [ce] at h1
      obtain ⟨_, hlen, hcell⟩ := World.cells?_some h1
      obtain ⟨xs, k, _, _, _, hxl, hf⟩ := DataW.trod_struct Try.underlying32 h2
      match cs', hlen with
      | [v0, v1, v2, v3, v4, v5], _ =>
        have g0 := hf 0 _ rfl
        have g1 := hf 1 _ rfl
        have g2 := hf 2 _ rfl
        have g3 := hf 3 _ rfl
        have g4 := hf 4 _ rfl
        have g5 := hf 5 _ rfl
        have hx0 : xs[0]? = some (xs[0]'(by rw [hxl]; decide)) := List.getElem?_eq_getElem _
        have hx1 : xs[1]? = some (xs[1]'(by rw [hxl]; decide)) := List.getElem?_eq_getElem _
        have hx2 : xs[2]? = some (xs[2]'(by rw [hxl]; decide)) := List.getElem?_eq_getElem _
        have hx3 : xs[3]? = some (xs[3]'(by rw [hxl]; decide)) := List.getElem?_eq_getElem _
        have hx4 : xs[4]? = some (xs[4]'(by rw [hxl]; decide)) := List.getElem?_eq_getElem _
        have hx5 : xs[5]? = some (xs[5]'(by rw [hxl]; decide)) := List.getElem?_eq_getElem _
        rw [hx0] at g0
        rw [hx1] at g1
        rw [hx2] at g2
        rw [hx3] at g3
        rw [hx4] at g4
        rw [hx5] at g5
        simp [c0, c1, c2] at g0 g1 g2 g3 g4 g5
        obtain ⟨z0, hz0, _, hw0⟩ := DataW.trod_int Try.underlying5 g0
        obtain ⟨z1, hz1, _, hw1⟩ := DataW.trod_int Try.underlying22 g1
        obtain ⟨z2, hz2, _, hw2⟩ := DataW.trod_int Try.underlying22 g2
        obtain ⟨z4, hz4, _, hw4⟩ := DataW.trod_int Try.underlying22 g4
        obtain ⟨z5, hz5, _, hw5⟩ := DataW.trod_int Try.underlying22 g5
        have e3 : ∃ p n c l, v3 = .slice p n c ∧ InRngs w p n l := by
          rcases Go.Deep.open_slice Try.underlying30 g3 with ⟨hcs, _⟩ | ⟨a', len', cap', m', n', D', Pl', hcs, _⟩
          · simp only [List.cons.injEq, and_true] at hcs
            subst hcs
            obtain ⟨l, hl⟩ := in_rngs g3
            exact ⟨_, _, _, l, rfl, hl⟩
          · simp only [List.cons.injEq, and_true] at hcs
            subst hcs
            obtain ⟨l, hl⟩ := in_rngs g3
            exact ⟨_, _, _, l, rfl, hl⟩
        obtain ⟨p3, n3, c3, l3, rfl, hl3, hm3, hi3, hu3⟩ := e3
        subst hl3
        simp only [List.cons.injEq, and_true] at hz0 hz1 hz2 hz4 hz5
        subst hz0 hz1 hz2 hz4 hz5
        have e0 := hcell 0 (by omega)
        have e1 := hcell 1 (by omega)
        have e2 := hcell 2 (by omega)
        have e3 := hcell 3 (by omega)
        have e4 := hcell 4 (by omega)
        have e5 := hcell 5 (by omega)
        rw [Go.Deep.add_add] at e0 e1 e2 e3 e4 e5
        have hs := hs0 (by omega)
        subst hs
        rw [Go.WideShapes.add_plain] at e0 e1 e2 e3 e4 e5
        obtain ⟨b0, b0'⟩ := bounds_u8 hw0
        obtain ⟨b1, b1'⟩ := bounds_u64 hw1
        obtain ⟨b2, b2'⟩ := bounds_u64 hw2
        obtain ⟨b4, b4'⟩ := bounds_u64 hw4
        obtain ⟨b5, b5'⟩ := bounds_u64 hw5
        refine ⟨⟨z0.toNat, z1.toNat, z2.toNat, p3, c3, l3, z4.toNat, z5.toNat⟩, rfl, World.block_lt_of_cell? _ _ e0, ⟨?_, ?_, ?_, ?_, ?_, ?_, by dsimp; omega, by dsimp; omega, by dsimp; omega, ⟨hm3, hi3, hu3⟩, by dsimp; omega, by dsimp; omega⟩⟩
        · dsimp; rw [Int.toNat_of_nonneg b0]; simpa using e0
        · dsimp; rw [Int.toNat_of_nonneg b1]; simpa [Nat.add_assoc] using e1
        · dsimp; rw [Int.toNat_of_nonneg b2]; simpa [Nat.add_assoc] using e2
        · dsimp; simpa [Nat.add_assoc] using e3
        · dsimp; rw [Int.toNat_of_nonneg b4]; simpa [Nat.add_assoc] using e4
        · dsimp; rw [Int.toNat_of_nonneg b5]; simpa [Nat.add_assoc] using e5
    obtain ⟨q, hq⟩ := Go.Deep.choose_lt each
    refine ⟨(List.range len).map q, b, off, by simp, by simp; omega, fun hpos => ?_, fun i hlt => ?_⟩
    · have hpos' : 0 < len := by simpa using hpos
      obtain ⟨rfl, h2, _⟩ := hq 0 hpos'
      exact ⟨rfl, h2⟩
    · simp only [List.length_map, List.length_range] at hlt
      have e : ((List.range len).map q).getD i default = q i := by simp [List.getD_eq_getElem?_getD, hlt]
      rw [e]
      exact (hq i hlt).2.2
theorem AcAt.keep {w w' : World} {b o : Nat} {q : Ac} (h : AcAt w b o q) (hb : b < w.heap.size) (k : Below w.heap.size w w') : AcAt w' b o q :=
  ⟨(k.cell (p := ⟨b, _, none⟩) hb).trans h.k0, (k.cell (p := ⟨b, _, none⟩) hb).trans h.k1, (k.cell (p := ⟨b, _, none⟩) hb).trans h.k2, (k.cell (p := ⟨b, _, none⟩) hb).trans h.k3, (k.cell (p := ⟨b, _, none⟩) hb).trans h.k4, (k.cell (p := ⟨b, _, none⟩) hb).trans h.k5, h.b0, h.b1, h.b2, ⟨h.b3.1, h.b3.2.1.keep k, h.b3.2.2⟩, h.b4, h.b5⟩
/-- Whether acts are few, and of few ranges each. -/
def fitsB (l : List Ac) : Bool := decide (l.length ≤ 100) && l.all fun q => decide (q.r.length ≤ 100)

set_option maxHeartbeats 1000000 in
theorem fits_any (l : List Ac) (v : Option Addr) (c b off : Nat) (W : World) (h : InActs W v l b off) :
    Calls Try.prog 5 #[.slice v l.length c] W fun e w' => e = .returned (.bool (fitsB l)) ∧ w' = W := by
  obtain ⟨h1, h2, h3⟩ := h
  have H3 := Lib.hid h3
  have H2 := Lib.hid h2
  clear h3 h2
  go_enter Try.func5, Try.ntmps5
  go_wp2
  go_loop [3] (fun i => ∃ k : Nat, i = .int .i64 (k : Int) ∧ k ≤ l.length ∧ k ≤ 101 ∧ ∀ j, j < k → (l.getD j default).r.length ≤ 100) (fun i => 101 - (intOf i).toNat)
  case atStart => exact ⟨0, rfl, Nat.zero_le _, by omega, fun j hj => absurd hj (by omega)⟩
  case round =>
    obtain ⟨k, rfl, hk, hk1, hall⟩ := hrel
    have HA := Lib.hid hall
    clear hall
    by_cases hlt : k < l.length
    · by_cases hk2 : k ≤ 100
      · obtain ⟨rfl, hb⟩ := H2.out (by omega)
        have A := H3.out k hlt
        have a3 := A.k3
        have hr := A.b3.1
        have i0 : (0 : Int) ≤ (k : Int) := by omega
        have i1 : (k : Int) < (l.length : Int) := by omega
        have hd1 : decide ((k : Int) ≤ 100) = true := by simp; omega
        clear A
        by_cases hl : (l.getD k default).r.length ≤ 100
        · have HL := Lib.hid hl
          generalize hq : (l.getD k default).r.length = n at *
          have HQ := Lib.hid hq
          clear hq
          have hd2 : decide ((100 : Int) < (n : Int)) = false := by simp; omega
          go_wp2
          go_round
          case rel => exact ⟨k + 1, by go_num, by omega, by omega, fun j hj => by
            by_cases e : j = k
            · subst e; rw [HQ.out]; exact hl
            · exact HA.out j (by omega)⟩
          case measure => simp [intOf]; omega
        · have HF : Hid (fitsB l = false) := Lib.hid (by
            unfold fitsB
            rw [Bool.and_eq_false_iff]
            right
            rw [List.all_eq_false]
            refine ⟨l.getD k default, ?_, by simpa using hl⟩
            simp [List.getD_eq_getElem?_getD, hlt])
          generalize (l.getD k default).r.length = n at *
          have hd2 : decide ((100 : Int) < (n : Int)) = true := by simp; omega
          go_wp2
          go_ret
          exact ⟨by rw [HF.out]; rfl, rfl⟩
      · have hd1 : decide ((k : Int) ≤ 100) = false := by simp; omega
        have hd2 : decide ((l.length : Int) ≤ 100) = false := by simp; omega
        have HF : Hid (fitsB l = false) := Lib.hid (by
          unfold fitsB
          rw [Bool.and_eq_false_iff]
          left
          simp; omega)
        go_wp2
        go_ret
        exact ⟨by rw [HF.out]; rfl, rfl⟩
    · obtain rfl : k = l.length := by omega
      have HF : Hid (fitsB l = decide ((l.length : Int) ≤ 100)) := Lib.hid (by
        unfold fitsB
        have e : l.all (fun q => decide (q.r.length ≤ 100)) = true := by
          rw [List.all_eq_true]
          intro q hq
          obtain ⟨i, hi, rfl⟩ := List.mem_iff_getElem.1 hq
          have := HA.out i hi
          simp [List.getD_eq_getElem?_getD, hi] at this
          simpa using this
        rw [e, Bool.and_true]
        exact decide_eq_decide.2 (by omega))
      go_wp2
      go_ret
      exact ⟨by rw [HF.out]; rfl, rfl⟩
end Go.Proofs.Ytfpopbhbhdhdnaa

namespace Go.Proofs.Ytfpopbhbhdhdnaa
open Go.RowKit

theorem pr_cell {w : World} {p : Option Addr} {n c : Nat} {l : List Pk} (h : PR w (.slice p n c) l) (hp : 0 < l.length) : ∃ b off, p = some ⟨b, off, none⟩ ∧ b < w.heap.size ∧ (∃ cs, Blk w b 41 cs) ∧ ∀ k, k < l.length → w.cell? ⟨b, off + k * 7, none⟩ = some (.int .u64 ((l.getD k Itm.z).n : Int)) := by
  obtain ⟨p', c', e⟩ := h.form
  injection e with e1 e2 e3
  subst e1 e2 e3
  obtain ⟨b, off, rfl, hb, hc⟩ := h.its hp
  refine ⟨b, off, rfl, hb, h.blk rfl, fun k hk => ?_⟩
  have k7 : Itm.k Pk = 7 := rfl
  have := hc k 0 hk (by rw [k7]; omega)
  exact this
theorem inQp_iff {Q : List Rn} {p : Pk} : inQp Q p = true ↔ InR Q p.n := by
  unfold inQp InR
  rw [List.any_eq_true]
  constructor
  · rintro ⟨r, hr, h⟩
    exact ⟨r, hr, by simpa using h⟩
  · rintro ⟨r, hr, h⟩
    exact ⟨r, hr, by simpa using h⟩

def pk8 (i : Nat) : Pk := ⟨i, 100, 10 * i, 0, 0, 0, false⟩
def pks (k : Nat) : List Pk := (List.range k).map pk8
structure Al (w : World) (b : Nat) (P : List Pk) (nx top : Nat) (tp : Bool) (wr : World) : Prop where
  led : ∃ rb g s, LAt wr b rb g s ∧ s.ok ∧ outP s.ks = P ∧ s.next = nx ∧ s.reorder = 2 ∧ s.top = top ∧ s.topped = tp ∧ ∀ x ∈ blocksL b rb g s, w.heap.size ≤ x
  bel : Below w.heap.size w wr
theorem Al.keep {w wr w' : World} {b : Nat} {P : List Pk} {nx top : Nat} {tp : Bool} (h : Al w b P nx top tp wr) (k : Below wr.heap.size wr w') : Al w b P nx top tp w' := by
  obtain ⟨rb, g, s, h1, h2⟩ := h.led
  exact ⟨⟨rb, g, s, h1.keep k, h2⟩, bel_to h.bel k h.bel.size⟩
theorem al_send {w wr : World} {b k : Nat} (h : Al w b (pks k) k 0 false wr) (hk : k ≤ 3) :
    Calls Try.prog 8 #[.pointer (some ⟨b, 0, none⟩), .int .u64 100, .agg #[.int .u64 ((10 * k : Nat) : Int), .int .u64 0, .int .u64 0, .int .u64 0, .bool false]] wr fun e w' => e = .returned (.int .u64 (k : Int)) ∧ Al w b (pks (k + 1)) (k + 1) 0 false w' := by
  obtain ⟨rb, g, s, h1, h2, h3, h4, h5, h6, h7, h8⟩ := h.led
  have hp : (pk8 k).ok := ⟨by show k ≤ 100000; omega, by show 100 ≤ _; omega, by show 10 * k ≤ _; omega, by show 0 ≤ _; omega, by show 0 ≤ _; omega, by show 0 ≤ _; omega⟩
  refine (send_any b rb g s wr h1 h2 (pk8 k) hp h4.symm (by omega)).mono ?_
  rintro e w' ⟨rfl, ⟨g', kb, m1, m2, m3, m4⟩, m5⟩
  have hsz := h.bel.size
  refine ⟨by rw [h4], ⟨⟨rb, g', _, m1, LS.push_ok h2 hp h4.symm (by omega) m2, ?_, by show s.next + 1 = _; omega, h5, h6, h7, fun x hx => ?_⟩, below_fr h.bel m5 h8⟩⟩
  · rw [outP_push, h3]
    unfold pks
    rw [List.range_succ, List.map_append]
    rfl
  · have hx8 : ∀ y, y = b ∨ y = rb ∨ y = g ∨ y ∈ s.ks.map Kp.b → w.heap.size ≤ y := fun y hy => h8 y (by simpa [blocksL] using hy)
    simp only [blocksL, LS.push, List.map_append, List.mem_cons, List.mem_append, List.map_cons, List.map_nil, List.not_mem_nil, or_false] at hx
    rcases hx with rfl | rfl | rfl | hx | rfl
    · exact hx8 _ (.inl rfl)
    · exact hx8 _ (.inr (.inl rfl))
    · rcases m3 with rfl | m3
      · exact hx8 _ (.inr (.inr (.inl rfl)))
      · omega
    · exact hx8 _ (.inr (.inr (.inr hx)))
    · omega
theorem al_end {w wr w' : World} {b rb g : Nat} {s : LS} {P' : List Pk} {nx' top' : Nat} {tp' : Bool} {P : List Pk} {nx top : Nat} {tp : Bool} (h : Al w b P nx top tp wr) (h8 : ∀ x ∈ blocksL b rb g s, w.heap.size ≤ x) (k : LedEnd wr b rb g s (fun s' => outP s'.ks = P' ∧ s'.next = nx' ∧ s'.reorder = 2 ∧ s'.top = top' ∧ s'.topped = tp') w') : Al w b P' nx' top' tp' w' := by
  obtain ⟨⟨rb', g', s', k1, k2, ⟨k3, k4, k5, k6, k7⟩, k8⟩, k9⟩ := k
  have hsz := h.bel.size
  refine ⟨⟨rb', g', s', k1, k2, k3, k4, k5, k6, k7, fun x hx => ?_⟩, below_fr h.bel k9 h8⟩
  rcases k8 x hx with c | c
  · exact h8 x c
  · omega
theorem al_ack {w wr : World} {b c : Nat} {p : Option Addr} (h : Al w b (pks 4) 4 0 false wr) (hl : Its wr p ([⟨3, 9⟩] : List Rn)) :
    Calls Try.prog 9 #[.pointer (some ⟨b, 0, none⟩), .slice p 1 c] wr fun e w' => ∃ v, e = .returned (.tuple #[v, .int .i64 0]) ∧ PR w' v [pk8 3] ∧ Al w b [pk8 0, pk8 1, pk8 2] 4 3 true w' := by
  obtain ⟨rb, g, s, h1, h2, h3, h4, h5, h6, h7, h8⟩ := h.led
  refine (ack_any b rb g p c [⟨3, 9⟩] s wr h1 h2 hl (by simp) (by decide) (fun r hr => by
    simp only [List.mem_cons, List.not_mem_nil, or_false] at hr
    subst hr
    exact (⟨by decide, by decide⟩ : Rn.u64 ⟨3, 9⟩))).mono ?_
  rintro e w' ⟨Q, hQ, ⟨v, rfl, k1, k2⟩, k3⟩
  have q : ∀ i, inQp Q (pk8 i) = decide (3 ≤ i ∧ i ≤ 9) := fun i => by
    rw [Bool.eq_iff_iff, inQp_iff, hQ.mem, decide_eq_true_eq]
    constructor
    · rintro (c | ⟨r, hr, c⟩)
      · exact absurd c (inR_nil _)
      · simp at hr; subst hr; exact c
    · intro c
      exact .inr ⟨_, List.mem_cons_self, c⟩
  have e4 : pks 4 = [pk8 0, pk8 1, pk8 2, pk8 3] := rfl
  have f1 : (outP s.ks).filter (inQp Q) = [pk8 3] := by
    rw [h3, e4]
    simp [q]
  have f2 : (outP s.ks).filter (fun x => !inQp Q x) = [pk8 0, pk8 1, pk8 2] := by
    rw [h3, e4]
    simp [q]
  rw [f1] at k1 k3
  rw [f2] at k3
  refine ⟨v, rfl, k1, al_end h h8 (k3.imp fun s' k => ⟨k.1, by rw [k.2.2.1, h4], by rw [k.2.1, h5], by rw [k.2.2.2.1, h6]; rfl, by rw [k.2.2.2.2]; simp⟩)⟩
theorem al_lost {w wr : World} {b : Nat} (h : Al w b [pk8 0, pk8 1, pk8 2] 4 3 true wr) :
    Calls Try.prog 10 #[.pointer (some ⟨b, 0, none⟩), .int .u64 25, .int .u64 15, .int .u64 1000] wr fun e w' => ∃ v, e = .returned v ∧ PR w' v [pk8 0, pk8 1] ∧ Al w b [pk8 2] 4 3 true w' ∧ ∀ v' l, PR wr v' l → PR w' v' l := by
  obtain ⟨rb, g, s, h1, h2, h3, h4, h5, h6, h7, h8⟩ := h.led
  refine (lost_any b rb g 25 15 1000 s wr h1 h2 (by omega) (by omega)).mono ?_
  rintro e w' ⟨⟨v, rfl, k1, k2⟩, k3⟩
  have q0 : lostB s 25 15 1000 (pk8 0) = true := by unfold lostB overB passB; rw [h5, h6, h7]; decide
  have q1 : lostB s 25 15 1000 (pk8 1) = true := by unfold lostB overB passB; rw [h5, h6, h7]; decide
  have q2 : lostB s 25 15 1000 (pk8 2) = false := by unfold lostB overB passB; rw [h5, h6, h7]; decide
  have f1 : (outP s.ks).filter (lostB s 25 15 1000) = [pk8 0, pk8 1] := by
    rw [h3]
    simp [q0, q1, q2]
  have f2 : (outP s.ks).filter (fun x => !lostB s 25 15 1000 x) = [pk8 2] := by
    rw [h3]
    simp [q0, q1, q2]
  rw [f1] at k1
  rw [f2] at k3
  refine ⟨v, rfl, k1, al_end h h8 (k3.imp fun s' k => ⟨k.1, by rw [k.2.2.1, h4], by rw [k.2.1, h5], by rw [k.2.2.2.1, h6], by rw [k.2.2.2.2, h7]⟩), fun v' l hv => ?_⟩
  exact hv.fr k3.fr (fun k e => by
    obtain ⟨cs, hc⟩ := hv.blk e
    exact h1.off hc (by decide) (by decide) (by decide) (by decide))
theorem al_infl {w wr : World} {b : Nat} (h : Al w b [pk8 2] 4 3 true wr) :
    Calls Try.prog 17 #[.pointer (some ⟨b, 0, none⟩)] wr fun e w' => e = .returned (.int .u64 100) ∧ w' = wr := by
  obtain ⟨rb, g, s, h1, h2, h3, h4, h5, h6, h7, h8⟩ := h.led
  refine (inflight_any b rb g s wr h1).mono ?_
  rintro e w' ⟨rfl, rfl⟩
  have : tot s.ks = 100 := by unfold tot; rw [h3]; rfl
  rw [this]
  exact ⟨rfl, rfl⟩
theorem al_top {w wr : World} {b : Nat} (h : Al w b [pk8 2] 4 3 true wr) :
    Calls Try.prog 16 #[.pointer (some ⟨b, 0, none⟩)] wr fun e w' => e = .returned (.tuple #[.int .u64 3, .bool true]) ∧ Drawn wr w' := by
  obtain ⟨rb, g, s, h1, h2, h3, h4, h5, h6, h7, h8⟩ := h.led
  refine (top_any b rb g s wr h1).mono ?_
  rintro e w' ⟨rfl, k⟩
  rw [h6, h7]
  exact ⟨rfl, k⟩
theorem al_next {w wr : World} {b : Nat} (h : Al w b [pk8 2] 4 3 true wr) :
    Calls Try.prog 18 #[.pointer (some ⟨b, 0, none⟩)] wr fun e w' => e = .returned (.int .u64 4) ∧ w' = wr := by
  obtain ⟨rb, g, s, h1, h2, h3, h4, h5, h6, h7, h8⟩ := h.led
  refine (next_any b rb g s wr h1).mono ?_
  rintro e w' ⟨rfl, rfl⟩
  rw [h4]
  exact ⟨rfl, rfl⟩

set_option maxHeartbeats 2000000 in
theorem alive08 (w : World) : Calls Try.prog 6 #[] w fun e w' => e = .returned (.bool true) ∧ Below w.heap.size w w' := by
  have HN := Lib.hid (new_any 2 w)
  have HN' : Hid (Calls Try.prog 7 #[.int .u64 2] w (NewL w (LS.empty 2))) := Lib.hid HN.out
  clear HN
  go_enter Try.func6, Try.ntmps6
  go_wp2_with fail
  refine (HN'.out).mono ?_
  rintro e w1 ⟨⟨b, rb, g, rfl, hl, hx⟩, hw⟩
  have H0 : Hid (Al w b (pks 0) 0 0 false w1) := Lib.hid ⟨⟨rb, g, _, hl, LS.empty_ok (by omega), rfl, rfl, rfl, rfl, rfl, hx⟩, hw⟩
  clear hl hx hw HN'
  go_wp2
  go_loopw [2] (fun i wr => ∃ k : Nat, i = .int .u64 (k : Int) ∧ k ≤ 4 ∧ Al w b (pks k) k 0 false wr) (fun i _ => 4 - (intOf i).toNat)
  case atStart => exact ⟨0, rfl, by omega, H0.out⟩
  case round =>
    obtain ⟨k, rfl, hk, hA⟩ := hrel
    clear H0
    by_cases hlt : k < 4
    · have HA : Hid (Calls Try.prog 8 #[.pointer (some ⟨b, 0, none⟩), .int .u64 100, .agg #[.int .u64 (10 * (k : Int)), .int .u64 0, .int .u64 0, .int .u64 0, .bool false]] wr fun e w' => e = .returned (.int .u64 (k : Int)) ∧ Al w b (pks (k + 1)) (k + 1) 0 false w') := Lib.hid (by
        have e : ((10 * k : Nat) : Int) = 10 * (k : Int) := by omega
        rw [← e]
        exact al_send hA (by omega))
      clear hA
      have hd : decide ((k : Int) < 4) = true := by simp; omega
      go_wp2_with fail
      refine (HA.out).mono ?_
      rintro e w2 ⟨rfl, h2⟩
      have H2 := Lib.hid h2
      clear h2 HA
      go_wp2
      go_roundw
      case rel => exact ⟨k + 1, by go_num, by omega, H2.out⟩
      case measure => simp [intOf]; omega
    · obtain rfl : k = 4 := by omega
      have HA := Lib.hid hA
      clear hA
      have HK : Hid (Calls Try.prog 9 #[.pointer (some ⟨b, 0, none⟩), .slice (some ⟨wr.heap.size, 0, none⟩) 1 1] (wr.alloc (.cells #[.int .u64 3, .int .u64 9] 56)) fun e w' => ∃ v, e = .returned (.tuple #[v, .int .i64 0]) ∧ PR w' v [pk8 3] ∧ Al w b [pk8 0, pk8 1, pk8 2] 4 3 true w') := Lib.hid (al_ack (HA.out.keep ((Below.refl _ _).alloc (Nat.le_refl _) _)) (fun _ => ⟨_, 0, rfl, by simp, fun i j hi hj => by
        have hb := Blk.new wr 56 #[.int .u64 3, .int .u64 9]
        have hi' : i = 0 := by simpa using hi
        subst hi'
        have k2 : Itm.k Rn = 2 := rfl
        rw [k2] at hj
        have hj' : j = 0 ∨ j = 1 := by omega
        rcases hj' with rfl | rfl
        · exact hb.cell (i := 0) rfl
        · exact hb.cell (i := 1) rfl⟩))
      go_wp2_with fail
      refine (HK.out).mono ?_
      rintro e w2 ⟨va, rfl, ha, h2⟩
      obtain ⟨pa, ca, rfl⟩ := ha.form
      have HL := Lib.hid (al_lost h2)
      have HPa := Lib.hid ha
      clear ha h2 HK HA
      go_wp2_with fail
      refine (HL.out).mono ?_
      rintro e w3 ⟨vb, rfl, hb, h3, hk3⟩
      obtain ⟨pb, cb, rfl⟩ := hb.form
      have HPa3 := Lib.hid (hk3 _ _ HPa.out)
      have HPb := Lib.hid hb
      have H3 := Lib.hid h3
      have HI := Lib.hid (al_infl h3)
      have HT := Lib.hid (al_top h3)
      clear HL HPa hb h3 hk3
      go_wp2_with fail
      refine (HI.out).mono ?_
      rintro e w4 ⟨rfl, rfl⟩
      clear HI
      go_wp2_with fail
      refine (HT.out).mono ?_
      rintro e w5 ⟨rfl, hd⟩
      obtain ⟨ba, oa, rfl, la, _, ca5⟩ := pr_cell (HPa3.out.drawn hd) (by simp)
      obtain ⟨bb, ob, rfl, lb, _, cb5⟩ := pr_cell (HPb.out.drawn hd) (by simp)
      have a0 : w5.cell? ⟨ba, oa, none⟩ = some (.int .u64 3) := ca5 0 (by simp)
      have b1 : w5.cell? ⟨bb, ob + 7, none⟩ = some (.int .u64 1) := cb5 1 (by simp)
      have HX := Lib.hid (al_next (H3.out.keep (hd.below _)))
      have H5 := Lib.hid (H3.out.keep (hd.below _)).bel
      clear HT HPa3 HPb H3 hd ca5 cb5
      go_wp2_with (go_at_call 18; refine (HX.out).mono ?_; rintro e w6 ⟨rfl, rfl⟩)
      go_ret
      exact ⟨rfl, H5.out⟩
end Go.Proofs.Ytfpopbhbhdhdnaa
