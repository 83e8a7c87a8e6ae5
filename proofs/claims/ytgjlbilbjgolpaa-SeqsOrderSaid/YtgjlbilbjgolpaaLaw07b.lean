/- SeqsOrder over this translation. -/
import Derived.Test.YtgjlbilbjgolpaaLaw07a
import Derived.Deep.SlicePairs
import Derived.ProofKit
import Derived.OpenShut
set_option linter.unusedVariables false
namespace Go.Proofs.Ytgjlbilbjgolpaa
open Go.ChangeShapes Go.WideShapes Go.ChangeAt Go.RowKit

/-- A slice of ranges that came in. -/
def InRngs (w : World) (v : Option Addr) (len : Nat) (l : List Rn) : Prop := l.length = len ∧ len ≤ 9223372036854775807 ∧ Its w v l ∧ ∀ r ∈ l, r.u64

theorem in_rngs {H : Type} {enc : TypeId × Value → H} {w : World} {fuel : Nat} {spare : Nat → Bool} {held : Bool} {v : Option Addr} {len cap : Nat} {x : DataW H × List MemPlace}
    (h : DataW.trod enc Try.prog w 0 spare held fuel 22 [.slice v len cap] = some x) : ∃ l, InRngs w v len l := by
  rcases Go.Deep.open_slice_pairs Try.underlying22 Try.underlying31 (by kernel_rfl) rfl rfl (by kernel_rfl) (by kernel_rfl) h with ⟨hcs, _⟩ | ⟨a, len', cap', m, n, V0, V1, D0, D1, P0, P1, hcs, _, hl, hm, hmm, _, hi⟩
  · simp only [List.cons.injEq, Value.slice.injEq, and_true] at hcs
    obtain ⟨rfl, rfl, rfl⟩ := hcs
    exact ⟨[], rfl, by omega, Its.none _ _, fun r hr => by cases hr⟩
  · simp only [List.cons.injEq, Value.slice.injEq, and_true] at hcs
    obtain ⟨rfl, rfl, rfl⟩ := hcs
    have hlm : len ≤ m := by rw [hmm]; split <;> omega
    unfold maxLen at hm
    have each : ∀ i, i < len → ∃ q : Rn, w.cell? (a.add (i * 2)) = some (.int .u64 (q.a : Int)) ∧ w.cell? (a.add (i * 2 + 1)) = some (.int .u64 (q.b : Int)) ∧ q.u64 := by
      intro i hlt
      obtain ⟨c0, c1, t0, t1⟩ := hi i (by omega)
      obtain ⟨y, hy, _, hwy⟩ := DataW.trod_int Try.underlying29 t0
      obtain ⟨z, hz, _, hw⟩ := DataW.trod_int Try.underlying29 t1
      simp only [List.cons.injEq, and_true] at hy hz
      obtain ⟨y0, y1⟩ := bounds_u64 hwy
      obtain ⟨z0, z1⟩ := bounds_u64 hw
      refine ⟨⟨y.toNat, z.toNat⟩, ?_, ?_, ⟨by show y.toNat ≤ _; omega, by show z.toNat ≤ _; omega⟩⟩
      · rw [c0, hy]; dsimp; rw [Int.toNat_of_nonneg y0]
      · rw [c1, hz]; dsimp; rw [Int.toNat_of_nonneg z0]
    obtain ⟨q, hq⟩ := Go.Deep.choose_lt each
    obtain ⟨b, off, spot⟩ := a
    have e : ∀ i, i < len → ((List.range len).map q).getD i Itm.z = q i := fun i hlt => by simp [List.getD_eq_getElem?_getD, hlt]
    refine ⟨(List.range len).map q, by simp, by omega, fun hpos => ?_, fun r hr => ?_⟩
    · have hpos' : 0 < len := by simpa using hpos
      have h0 := (hq 0 hpos').1
      have hs : spot = none := by simpa [Addr.add] using World.cell?_spot h0
      subst hs
      refine ⟨b, off, rfl, by have := World.block_lt_of_cell? _ _ h0; simpa [Addr.add] using this, fun i j hi hj => ?_⟩
      have hi' : i < len := by simpa using hi
      have k2 : Itm.k Rn = 2 := rfl
      rw [k2] at hj ⊢
      rw [e i hi']
      obtain ⟨a0, a1, _⟩ := hq i hi'
      rw [Go.WideShapes.add_plain] at a0 a1
      match j, hj with
      | 0, _ => exact a0
      | 1, _ => exact a1
    · obtain ⟨i, hi, rfl⟩ := List.mem_map.1 hr
      exact (hq i (by simpa using hi)).2.2

theorem apart_put {W w w' : World} {a b : Nat} {Xa Xb Xb' : List Nat} {A B' : List Rn} (h : OwnS W w a Xa A) (k : OwnS W w' b Xb' B') (hF : Fr w w' Xb) (hX : ∀ x ∈ Xb', x ∈ Xb ∨ w.heap.size ≤ x) (hd : ∀ x ∈ Xa, x ∉ Xb) : OwnS W w' a Xa A ∧ ∀ x ∈ Xa, x ∉ Xb' :=
  ⟨⟨h.at_.fr hF hd, h.lo, fun x hx => Nat.lt_of_lt_of_le (h.hi x hx) hF.size, k.bel, h.canon⟩, fun x hx hx' => by
    rcases hX x hx' with c | c
    · exact hd x hx c
    · have := h.hi x hx; omega⟩

def OrdRel (W : World) (l A : List Rn) (s a b : Nat) (k : Nat) (wr : World) : Prop :=
  ∃ Xa Xb B, OwnS W wr a Xa A ∧ OwnS W wr b Xb B ∧ (∀ x ∈ Xa, x ∉ Xb) ∧ k ≤ l.length ∧ B.length ≤ k ∧ ∀ n, InR B n ↔ Some1 l s k n

theorem law_short (f : Nat) (v : Option Addr) (cap : Nat) (l : List Rn) (W : World) (hI : Its W v l) (hm : l.length ≤ 9223372036854775807) (hu : ∀ r ∈ l, r.u64) (h : l.all okB = false ∨ 60 < l.length ∨ l.length = 0) :
    Calls Try.prog 3 #[.slice v l.length cap, .int .u8 (f : Int)] W fun e w' => e = .returned (.bool true) ∧ Below W.heap.size W w' := by
  have HR := right_any l v cap W hI hm hu
  generalize hall : l.all okB = al at *
  have HRt := Lib.hid HR
  clear HR hall hI hu
  have hal := fun W => alive07 W
  rcases h with rfl | h | h
  · go_enter Try.func3, Try.ntmps3
    go_wp2_with fail
    refine (HRt.out).mono ?_
    rintro e w1 ⟨rfl, d1⟩
    have D1 := Lib.hid d1
    clear d1
    go_wp2_with fail
    refine (hal w1).mono ?_
    rintro e w2 ⟨rfl, b2⟩
    have B2 := Lib.hid (bel_to (D1.out.below W.heap.size) b2 (D1.out.below W.heap.size).size)
    clear b2
    go_wp2
    go_ret
    exact ⟨rfl, B2.out⟩
  · cases al
    all_goals
      have hd : decide ((60 : Int) < (l.length : Int)) = true := by simp; omega
      clear h
      go_enter Try.func3, Try.ntmps3
      go_wp2_with fail
      refine (HRt.out).mono ?_
      rintro e w1 ⟨rfl, d1⟩
      have D1 := Lib.hid d1
      clear d1
      go_wp2_with fail
      refine (hal w1).mono ?_
      rintro e w2 ⟨rfl, b2⟩
      have B2 := Lib.hid (bel_to (D1.out.below W.heap.size) b2 (D1.out.below W.heap.size).size)
      clear b2
      go_wp2
      go_ret
      exact ⟨rfl, B2.out⟩
  · obtain rfl : l = [] := List.eq_nil_of_length_eq_zero h
    clear h
    cases al
    all_goals
      go_enter Try.func3, Try.ntmps3
      go_wp2_with fail
      refine (HRt.out).mono ?_
      rintro e w1 ⟨rfl, d1⟩
      have D1 := Lib.hid d1
      clear d1
      go_wp2_with fail
      refine (hal w1).mono ?_
      rintro e w2 ⟨rfl, b2⟩
      have B2 := Lib.hid (bel_to (D1.out.below W.heap.size) b2 (D1.out.below W.heap.size).size)
      clear b2
      go_wp2
      go_ret
      exact ⟨rfl, B2.out⟩
end Go.Proofs.Ytgjlbilbjgolpaa
