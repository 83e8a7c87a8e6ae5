/- Has, Gap, and Delete of one range of two, over this translation. -/
import Derived.Test.YtgjlbilbjgolpaaTd
import Derived.Deep.RegionLaw
set_option linter.unusedVariables false
namespace Go.Proofs.Ytgjlbilbjgolpaa
open Go.RowKit

theorem ret_u64 {a b : Int} (h : a = b) : Ending.returned (.int .u64 a) = .returned (.int .u64 b) := by rw [h]
def HasPost (L : List Rn) (n : Nat) (w : World) (e : Ending) (w' : World) : Prop := ∃ f : Bool, e = .returned (.bool f) ∧ (f = true ↔ InR L n) ∧ Below w.heap.size w w'
def GapPost (L : List Rn) (n : Nat) (w : World) (e : Ending) (w' : World) : Prop := ∃ x : Nat, e = .returned (.int .u64 (x : Int)) ∧ ((¬ InR L n ∧ x = n) ∨ ∃ r ∈ L, r.a ≤ n ∧ n ≤ r.b ∧ x = r.b + 1) ∧ Below w.heap.size w w'

theorem has_any (b : Nat) (X : List Nat) (L : List Rn) (n : Nat) (w : World) (h : SetAt w b X L) (hm : L.length ≤ 1000) (hC : Canon L) :
    Calls Try.prog 12 #[.pointer (some ⟨b, 0, none⟩), .int .u64 (n : Int)] w (HasPost L n w) := by
  have HA := Lib.hid (around_any b X L n w h hm hC)
  clear h hC
  go_enter Try.func12, Try.ntmps12
  go_wp2_with fail
  refine (HA.out).mono ?_
  rintro e w1 ⟨r, f, rfl, hw, h1, h2⟩
  have HW := Lib.hid hw
  have H1 := Lib.hid h1
  have H2 := Lib.hid h2
  clear hw h1 h2
  unfold Rn.agg
  go_wp2
  go_ret
  refine ⟨f, rfl, ⟨fun e => ⟨r, H1.out e⟩, fun k => ?_⟩, HW.out.trans (((Below.refl _ _).alloc (Nat.le_refl _) _).mono HW.out.size)⟩
  cases f with
  | true => rfl
  | false => exact absurd k (H2.out rfl)
theorem gap_any (b : Nat) (X : List Nat) (L : List Rn) (n : Nat) (w : World) (h : SetAt w b X L) (hm : L.length ≤ 1000) (hC : Canon L) :
    Calls Try.prog 10 #[.pointer (some ⟨b, 0, none⟩), .int .u64 (n : Int)] w (GapPost L n w) := by
  have HA := Lib.hid (around_any b X L n w h hm hC)
  have HC := Lib.hid hC
  clear h hC
  go_enter Try.func10, Try.ntmps10
  go_wp2_with fail
  refine (HA.out).mono ?_
  rintro e w1 ⟨r, f, rfl, hw, h1, h2⟩
  have HW := Lib.hid hw
  have H1 := Lib.hid h1
  have H2 := Lib.hid h2
  clear hw h1 h2
  unfold Rn.agg
  cases f with
  | true =>
    have hr := (HC.out.ok r (H1.out (by first | rfl | trivial)).1).lt
    go_wp2
    go_ret
    exact ⟨r.b + 1, ret_u64 rfl, .inr ⟨r, (H1.out (by first | rfl | trivial)).1, (H1.out (by first | rfl | trivial)).2.1, (H1.out (by first | rfl | trivial)).2.2, rfl⟩, HW.out.trans (((Below.refl _ _).alloc (Nat.le_refl _) _).mono HW.out.size)⟩
  | false =>
    go_wp2
    go_ret
    exact ⟨n, rfl, .inl ⟨H2.out (by first | rfl | trivial), rfl⟩, HW.out.trans (((Below.refl _ _).alloc (Nat.le_refl _) _).mono HW.out.size)⟩
end Go.Proofs.Ytgjlbilbjgolpaa
