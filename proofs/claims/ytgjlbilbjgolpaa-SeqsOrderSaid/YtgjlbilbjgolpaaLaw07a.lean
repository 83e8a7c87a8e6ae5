/- The live question of layer 7 over this translation. -/
import Derived.Test.YtgjlbilbjgolpaaTg
set_option linter.unusedVariables false
namespace Go.Proofs.Ytgjlbilbjgolpaa
open Go.RowKit

theorem SetAt.trim {w : World} {b : Nat} {X : List Nat} {L : List Rn} (h : SetAt w b X L) : SetAt w b (X.filter fun x => decide (x < w.heap.size)) L := by
  obtain ⟨v, hb, hx, hv, hr⟩ := h
  refine ⟨v, hb, by simp [hx, hb.lt], fun g e => ?_, ?_⟩
  · have h1 := hv g e
    have h2 : g < w.heap.size := by
      rcases hr with ⟨rfl, p, cap, rfl, ho⟩ | ⟨hp, g, cap, rg, rc, rfl, ho, hr, hx⟩
      · exact (ho.lt _ e).2
      · exact (ho.lt _ e).2
    simp [h1, h2]
  · rcases hr with ⟨rfl, p, cap, rfl, ho⟩ | ⟨hp, g, cap, rg, rc, rfl, ho, hr, hx⟩
    · exact .inl ⟨rfl, p, cap, rfl, ho⟩
    · exact .inr ⟨hp, g, cap, rg, rc, rfl, ho, hr, by
        have : rg < w.heap.size := (World.ownsRow.lt hr rg rfl).2
        simp [hx, this]⟩

/-- A set of the call's own. -/
structure OwnS (W w : World) (b : Nat) (X : List Nat) (L : List Rn) : Prop where
  at_ : SetAt w b X L
  lo : ∀ x ∈ X, W.heap.size ≤ x
  hi : ∀ x ∈ X, x < w.heap.size
  bel : Below W.heap.size W w
  canon : Canon L
theorem OwnS.keep {W w w' : World} {b : Nat} {X : List Nat} {L : List Rn} (h : OwnS W w b X L) (k : Below w.heap.size w w') : OwnS W w' b X L := ⟨h.at_.keep k, h.lo, fun x hx => Nat.lt_of_lt_of_le (h.hi x hx) k.size, h.bel.trans (k.mono h.bel.size), h.canon⟩
theorem OwnS.alloc {W w : World} {b : Nat} {X : List Nat} {L : List Rn} (h : OwnS W w b X L) (o : Obj) : OwnS W (w.alloc o) b X L := h.keep ((Below.refl _ _).alloc (Nat.le_refl _) _)

theorem own_New {W w : World} (h : Below W.heap.size W w) : Calls Try.prog 6 #[] w fun e w' => e = .returned (.pointer (some ⟨w.heap.size, 0, none⟩)) ∧ OwnS W w' w.heap.size [w.heap.size] [] ∧ Below w.heap.size w w' :=
  (set_New w).mono fun e w' ⟨he, hs, hb⟩ => ⟨he, ⟨hs, fun x hx => by simp at hx; subst hx; exact h.size, fun x hx => by simp at hx; subst hx; exact hs.lt, h.trans (hb.mono h.size), ⟨List.Pairwise.nil, fun r hr => by cases hr⟩⟩, hb⟩

/-- What Put leaves of a set of the call's own. -/
def OwnPut (W w : World) (b : Nat) (X : List Nat) (L l : List Rn) (e : Ending) (w' : World) : Prop :=
  e = .returned (.int .i64 0) ∧ ∃ X' L', OwnS W w' b X' L' ∧ Puts L l L' ∧ Fr w w' X ∧ ∀ x ∈ X', x ∈ X ∨ w.heap.size ≤ x
theorem own_Put {W w : World} {b : Nat} {X : List Nat} {L l : List Rn} (p : Option Addr) (c n : Nat) (h : OwnS W w b X L) (hl : Its w p l) (hn : n = l.length) (hp : 0 < l.length) (hm : L.length + l.length ≤ 64) (ho : l.all okB = true) (hu : ∀ r ∈ l, r.u64) :
    Calls Try.prog 7 #[.pointer (some ⟨b, 0, none⟩), .slice p n c] w (OwnPut W w b X L l) := by
  subst hn
  refine (put_ok b X L l p c w h.at_ h.canon hl hp hm ho hu).mono ?_
  rintro e w' ⟨he, X', L', hs, hP, hF, hX⟩
  refine ⟨he, _, L', ⟨hs.trim, fun x hx => ?_, fun x hx => ?_, bel_fr h.bel hF h.bel.size h.lo, hP.canon⟩, hP, hF, fun x hx => ?_⟩
  · simp at hx
    rcases hX x hx.1 with k | k
    · exact h.lo x k
    · exact Nat.le_trans h.bel.size k
  · simp at hx; exact hx.2
  · simp at hx; exact hX x hx.1

theorem u64_lit {a b : Nat} (h : a ≤ 18446744073709551615) (k : b ≤ 18446744073709551615) : (⟨a, b⟩ : Rn).u64 := ⟨h, k⟩
def l3 : List Rn := [⟨5, 7⟩, ⟨1, 2⟩, ⟨3, 3⟩]
def l2 : List Rn := [⟨1, 3⟩, ⟨5, 7⟩]
theorem canon_l2 : Canon l2 := ⟨by simp [l2], fun r hr => by simp [l2] at hr; rcases hr with rfl | rfl <;> exact ⟨by decide, by decide⟩⟩
theorem puts_l2 {L : List Rn} (h : Puts [] l3 L) : L = l2 := by
  refine canon_one h.canon canon_l2 fun n => ?_
  rw [h.mem]
  simp [l3, l2, inR_cons, inR_nil]
  omega
theorem gap_l2 {x : Nat} (h : (¬ InR l2 1 ∧ x = 1) ∨ ∃ r ∈ l2, r.a ≤ 1 ∧ 1 ≤ r.b ∧ x = r.b + 1) : x = 4 := by
  rcases h with ⟨h, _⟩ | ⟨r, hr, h1, h2, h3⟩
  · exact absurd (by simp [l2, inR_cons]) h
  · simp [l2] at hr
    rcases hr with rfl | rfl
    · exact h3
    · simp at h1
theorem in_67 (n : Nat) : InR [⟨6, 7⟩] n ↔ 6 ≤ n ∧ n ≤ 7 := by simp [inR_cons, inR_nil]

set_option maxHeartbeats 4000000 in
set_option maxRecDepth 100000 in
theorem alive07 (w : World) : Calls Try.prog 5 #[] w fun e w' => e = .returned (.bool true) ∧ Below w.heap.size w w' := by
  go_enter Try.func5, Try.ntmps5
  go_wp2_with fail
  refine (own_New (Below.refl _ w)).mono ?_
  rintro e w1 ⟨rfl, h1, _⟩
  obtain ⟨b, hb⟩ : ∃ b, w.heap.size = b := ⟨_, rfl⟩
  have H1 : Hid (OwnS w (w1.alloc (.cells #[.int .u64 5, .int .u64 7, .int .u64 1, .int .u64 2, .int .u64 3, .int .u64 3] 31)) b [b] []) := Lib.hid (by rw [← hb]; exact h1.alloc _)
  have I1 : Hid (Its (w1.alloc (.cells #[.int .u64 5, .int .u64 7, .int .u64 1, .int .u64 2, .int .u64 3, .int .u64 3] 31)) (some ⟨w1.heap.size, 0, none⟩) l3) := Lib.hid (Its.of_blk (Blk.new w1 _ (icells l3)))
  have C1 := Lib.hid (own_Put (some ⟨w1.heap.size, 0, none⟩) 3 3 H1.out I1.out rfl (by decide) (by decide) (by decide) (by intro r hr; simp [l3] at hr; rcases hr with rfl | rfl | rfl <;> exact ⟨by decide, by decide⟩))
  rw [hb]
  clear h1 hb
  go_wp2_with fail
  refine (C1.out).mono ?_
  rintro e w2 ⟨rfl, X2, L2, o2, p2, _, _⟩
  obtain rfl := puts_l2 p2
  have O2 := Lib.hid (o2.alloc (.cells #[.int .u64 2, .int .u64 1] 31))
  have I2 : Hid (Its (w2.alloc (.cells #[.int .u64 2, .int .u64 1] 31)) (some ⟨w2.heap.size, 0, none⟩) [(⟨2, 1⟩ : Rn)]) := Lib.hid (Its.of_blk (Blk.new w2 _ (icells [(⟨2, 1⟩ : Rn)])))
  have C2 : Hid (Calls Try.prog 7 #[.pointer (some ⟨b, 0, none⟩), .slice (some ⟨w2.heap.size, 0, none⟩) 1 1] (w2.alloc (.cells #[.int .u64 2, .int .u64 1] 31)) fun e w' => e = .returned (.int .i64 1) ∧ Below (w2.alloc (.cells #[.int .u64 2, .int .u64 1] 31)).heap.size (w2.alloc (.cells #[.int .u64 2, .int .u64 1] 31)) w') := Lib.hid (put_wrong b [(⟨2, 1⟩ : Rn)] (some ⟨w2.heap.size, 0, none⟩) 1 _ I2.out (by decide) (by decide) (by decide))
  clear o2 p2 H1 I1 C1
  go_wp2_with fail
  refine (C2.out).mono ?_
  rintro e w3 ⟨rfl, k3⟩
  have O3 := Lib.hid (O2.out.keep k3)
  clear k3 O2 I2 C2
  have C3 := Lib.hid (set_All b X2 l2 w3 O3.out.at_ (by decide))
  go_wp2_with fail
  refine (C3.out).mono ?_
  rintro e w4 ⟨v4, rfl, r4, k4, g4⟩
  have O4 := Lib.hid (O3.out.keep k4)
  have R4 := Lib.hid r4
  have N4 : Hid (∀ g, v4.ownBlock = some g → g ∉ X2) := Lib.hid (fun g e hx => by have := g4 g e; have := O3.out.hi g hx; omega)
  clear r4 k4 g4 O3 C3
  have C4 : Hid (Calls Try.prog 10 #[.pointer (some ⟨b, 0, none⟩), .int .u64 1] w4 (GapPost l2 1 w4)) := Lib.hid (gap_any b X2 l2 1 w4 O4.out.at_ (by decide) O4.out.canon)
  go_wp2_with fail
  refine (C4.out).mono ?_
  rintro e w5 ⟨x, rfl, hx, k5⟩
  obtain rfl := gap_l2 hx
  have O5 := Lib.hid (O4.out.keep k5)
  have R5 := Lib.hid (R4.out.keep k5)
  clear hx k5 O4 R4 C4
  have C5 : Hid (Calls Try.prog 11 #[.pointer (some ⟨b, 0, none⟩), .int .u64 6] w5 fun e w' => e = .returned (.tuple #[]) ∧ SetAt w' b X2 [⟨6, 7⟩] ∧ Fr w5 w' X2) := Lib.hid (cut_two b X2 ⟨1, 3⟩ ⟨5, 7⟩ 6 w5 O5.out.at_ canon_l2 (by decide) (by decide))
  go_wp2_with fail
  refine (C5.out).mono ?_
  rintro e w6 ⟨rfl, s6, f6⟩
  have O6 : Hid (OwnS w w6 b X2 [⟨6, 7⟩]) := Lib.hid ⟨s6, O5.out.lo, fun x hx => Nat.lt_of_lt_of_le (O5.out.hi x hx) f6.size, bel_fr O5.out.bel f6 O5.out.bel.size O5.out.lo, ⟨by simp, fun r hr => by simp at hr; subst hr; exact ⟨by decide, by decide⟩⟩⟩
  have R6 := Lib.hid (R5.out.fr f6 N4.out)
  clear s6 f6 O5 R5 C5 N4
  obtain ⟨g6, c6, e6, _⟩ := R6.out.form1 (by decide)
  subst e6
  have O7 := Lib.hid (O6.out.alloc (.cells #[.int .u64 1, .int .u64 3, .int .u64 5, .int .u64 7] 31))
  have R7 := Lib.hid (R6.out.keep ((Below.refl _ _).alloc (Nat.le_refl _) (.cells #[.int .u64 1, .int .u64 3, .int .u64 5, .int .u64 7] 31)))
  have I7 : Hid (Its (w6.alloc (.cells #[.int .u64 1, .int .u64 3, .int .u64 5, .int .u64 7] 31)) (some ⟨w6.heap.size, 0, none⟩) l2) := Lib.hid (Its.of_blk (Blk.new w6 _ (icells l2)))
  have C7 := Lib.hid (same_eq l2 (some ⟨g6, 0, none⟩) (some ⟨w6.heap.size, 0, none⟩) c6 2 _ R7.out.its I7.out (by decide))
  clear R6 O6
  go_wp2_with fail
  refine (C7.out).mono ?_
  rintro e w8 ⟨rfl, d8⟩
  have O8 := Lib.hid (O7.out.keep (d8.below _))
  clear d8 O7 R7 I7 C7
  have C8 : Hid (Calls Try.prog 12 #[.pointer (some ⟨b, 0, none⟩), .int .u64 6] w8 (HasPost [⟨6, 7⟩] 6 w8)) := Lib.hid (has_any b X2 [⟨6, 7⟩] 6 w8 O8.out.at_ (by decide) O8.out.canon)
  go_wp2_with fail
  refine (C8.out).mono ?_
  rintro e w9 ⟨f, rfl, hf, k9⟩
  obtain rfl : f = true := hf.2 ((in_67 6).2 (by decide))
  have O9 := Lib.hid (O8.out.keep k9)
  clear hf k9 O8 C8
  have C9 : Hid (Calls Try.prog 12 #[.pointer (some ⟨b, 0, none⟩), .int .u64 5] w9 (HasPost [⟨6, 7⟩] 5 w9)) := Lib.hid (has_any b X2 [⟨6, 7⟩] 5 w9 O9.out.at_ (by decide) O9.out.canon)
  go_wp2_with fail
  refine (C9.out).mono ?_
  rintro e w10 ⟨f, rfl, hf, k10⟩
  have hf0 : f = false := by
    cases f with
    | false => rfl
    | true => have := (in_67 5).1 (hf.1 rfl); omega
  subst hf0
  have O10 := Lib.hid (O9.out.keep k10)
  clear hf k10 O9 C9
  go_wp2
  go_ret
  exact ⟨rfl, O10.out.bel⟩
end Go.Proofs.Ytgjlbilbjgolpaa
