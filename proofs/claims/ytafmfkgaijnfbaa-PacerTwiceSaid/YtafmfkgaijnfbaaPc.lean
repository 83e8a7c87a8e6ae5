/- Plain facts on a pacer: what its ticks, and what is taken, make of it (no program here). -/
import Derived.Test.YtafmfkgaijnfbaaPl
set_option linter.unusedVariables false
namespace Go.Proofs.Ytafmfkgaijnfbaa

/-- A pacer: its rate, quantum, time, credit. -/
structure PS where
  r : Nat
  q : Nat
  t : Nat
  s : Nat

namespace PS
def zero : PS := ⟨0, 0, 0, 0⟩
def ok (p : PS) : Prop := p.r ≤ 18446744073709551615 ∧ p.q ≤ 18446744073709551615 ∧ p.t ≤ 18446744073709551615 ∧ p.s ≤ 18446744073709551615
def tickE (p : PS) (now : Nat) : Int := if now < p.t then 2 else 0
def tickS (p : PS) (now r q : Nat) : PS := if now < p.t then p else ⟨r, q, now, min (Pl.addS p.s (Pl.mulS r (now - p.t))) (Pl.mulS q 1000000)⟩
def takeB (p : PS) (x : Nat) : Bool := decide (Pl.mulS x 1000000 ≤ p.s)
def takeS (p : PS) (x : Nat) : PS := if Pl.mulS x 1000000 ≤ p.s then ⟨p.r, p.q, p.t, p.s - Pl.mulS x 1000000⟩ else p
def lack (p : PS) (x : Nat) : Nat := Pl.subS (Pl.mulS x 1000000) p.s
def nextB (p : PS) (x : Nat) : Bool := if p.q < x then false else if p.lack x = 0 then true else if p.r = 0 then false else true
def nextT (p : PS) (x : Nat) : Nat := if p.q < x then 0 else if p.lack x = 0 then p.t else if p.r = 0 then 0 else Pl.addS p.t (Pl.overS (p.lack x) 1 p.r)
def fillS (p : PS) : PS := ⟨p.r, p.q, p.t, Pl.mulS p.q 1000000⟩

theorem zero_ok : zero.ok := by unfold ok zero; refine ⟨?_, ?_, ?_, ?_⟩ <;> dsimp <;> omega
theorem tick_ok {p : PS} (h : p.ok) {now r q : Nat} (hn : now ≤ 18446744073709551615) (hr : r ≤ 18446744073709551615) (hq : q ≤ 18446744073709551615) : (p.tickS now r q).ok := by
  unfold tickS
  split
  · exact h
  · exact ⟨hr, hq, hn, Nat.le_trans (Nat.min_le_right _ _) (Pl.mulS_le _ _)⟩
theorem take_ok {p : PS} (h : p.ok) (x : Nat) : (p.takeS x).ok := by
  unfold takeS
  split
  · exact ⟨h.1, h.2.1, h.2.2.1, Nat.le_trans (Nat.sub_le _ _) h.2.2.2⟩
  · exact h
theorem fill_ok {p : PS} (h : p.ok) : p.fillS.ok := ⟨h.1, h.2.1, h.2.2.1, Pl.mulS_le _ _⟩

/-- Small: its numbers are up to 2^20, and its credit is no more than its quantum's. -/
def small (p : PS) : Prop := p.r ≤ 1048576 ∧ p.q ≤ 1048576 ∧ p.t ≤ 1048576 ∧ p.s ≤ p.q * 1000000

theorem small_zero : zero.small := by unfold small zero; refine ⟨?_, ?_, ?_, ?_⟩ <;> dsimp <;> omega
theorem small.ok {p : PS} (h : p.small) : p.ok := by obtain ⟨a, b, c, d⟩ := h; unfold PS.ok; omega
theorem mul_small {x : Nat} (h : x ≤ 1048576) : Pl.mulS x 1000000 = x * 1000000 := by unfold Pl.mulS; omega
theorem mul_two {x y : Nat} (h : x ≤ 1048576) (k : y ≤ 4194304) : x * y ≤ 4398046511104 := by
  have := Nat.mul_le_mul h k
  omega
theorem mulS_two {x y : Nat} (h : x ≤ 1048576) (k : y ≤ 4194304) : Pl.mulS x y = x * y := by
  have := mul_two h k
  unfold Pl.mulS; omega

/-- A tick of small numbers (its time up to 2^22), without bounds. -/
theorem tick_eq {p : PS} (h : p.small) {now r q : Nat} (hn : now ≤ 4194304) (hr : r ≤ 1048576) (hq : q ≤ 1048576) (hge : p.t ≤ now) :
    p.tickS now r q = ⟨r, q, now, min (p.s + r * (now - p.t)) (q * 1000000)⟩ := by
  obtain ⟨a, b, c, d⟩ := h
  have hm := mul_two hr (show now - p.t ≤ 4194304 by omega)
  unfold tickS
  rw [if_neg (by omega), mulS_two hr (by omega), mul_small hq]
  unfold Pl.addS
  generalize r * (now - p.t) = z at *
  have e : min (p.s + z) 18446744073709551615 = p.s + z := by omega
  rw [e]
theorem tick_small {p : PS} (h : p.small) {now r q : Nat} (hn : now ≤ 1048576) (hr : r ≤ 1048576) (hq : q ≤ 1048576) : (p.tickS now r q).small := by
  by_cases c : now < p.t
  · unfold tickS; rw [if_pos c]; exact h
  · rw [tick_eq h (by omega) hr hq (by omega)]
    exact ⟨hr, hq, hn, Nat.min_le_right _ _⟩
theorem take_small {p : PS} (h : p.small) (x : Nat) : (p.takeS x).small := by
  unfold takeS
  split
  · exact ⟨h.1, h.2.1, h.2.2.1, Nat.le_trans (Nat.sub_le _ _) h.2.2.2⟩
  · exact h
theorem take_rqt (p : PS) (x : Nat) : (p.takeS x).r = p.r ∧ (p.takeS x).q = p.q ∧ (p.takeS x).t = p.t := by
  unfold takeS; split <;> exact ⟨rfl, rfl, rfl⟩

/-- No more: what a take leaves, and what a tick gives. -/
theorem take_sum {p : PS} {x : Nat} (hx : x ≤ 1048576) (c : p.takeB x = true) : (p.takeS x).s + x * 1000000 = p.s := by
  unfold takeB at c
  have c' := of_decide_eq_true c
  unfold takeS
  rw [if_pos c', mul_small hx]
  rw [mul_small hx] at c'
  dsimp
  omega
theorem take_no {p : PS} {x : Nat} (c : p.takeB x = false) : p.takeS x = p := by
  unfold takeB at c
  unfold takeS
  rw [if_neg (of_decide_eq_false c)]
theorem tick_no {p : PS} {now r q : Nat} (c : now < p.t) : p.tickS now r q = p := by unfold tickS; rw [if_pos c]
theorem tick_more {p : PS} (h : p.small) {now r q : Nat} (hn : now ≤ 1048576) (hr : r ≤ 1048576) (hq : q ≤ 1048576) (hge : p.t ≤ now) :
    (p.tickS now r q).s ≤ p.s + r * (now - p.t) := by
  rw [tick_eq h (by omega) hr hq hge]
  exact Nat.min_le_left _ _

/-- In two: a tick that goes as far as two gives the same credit. -/
theorem twice {p : PS} (h : p.small) {a b : Nat} (ha : a ≤ 1048576) (hb : b ≤ 1048576) :
    (p.tickS (p.t + a + b) p.r p.q).s = ((p.tickS (p.t + a) p.r p.q).tickS (p.t + a + b) p.r p.q).s := by
  have h' := h
  obtain ⟨h1, h2, h3, h4⟩ := h
  have m1 := mul_two h1 (show a ≤ 4194304 by omega)
  have m2 := mul_two h1 (show b ≤ 4194304 by omega)
  rw [tick_eq h' (by omega) h1 h2 (by omega), tick_eq h' (by omega) h1 h2 (by omega)]
  unfold tickS
  dsimp only
  rw [if_neg (by omega), show p.t + a + b - p.t = a + b by omega, show p.t + a - p.t = a by omega, show p.t + a + b - (p.t + a) = b by omega, mulS_two h1 (by omega), mul_small h2, Nat.mul_add]
  unfold Pl.addS
  dsimp only
  generalize p.r * a = x at *
  generalize p.r * b = y at *
  omega

/-- Then: how long a lack takes, rounded up. -/
theorem over_ge {l r : Nat} (hr : 0 < r) (hl : l ≤ 1099511627776) : l ≤ r * Pl.overS l 1 r ∧ Pl.overS l 1 r ≤ 1099511627776 := by
  unfold Pl.overS
  rw [if_neg (by omega), Nat.mul_one]
  have hm := Nat.div_add_mod (l + (r - 1)) r
  have hlt := Nat.mod_lt (l + (r - 1)) hr
  have hle : (l + (r - 1)) / r ≤ l := by
    rw [Nat.div_le_iff_le_mul hr]
    have : l ≤ l * r := Nat.le_mul_of_pos_right _ hr
    omega
  have e : min ((l + (r - 1)) / r) 18446744073709551615 = (l + (r - 1)) / r := by omega
  rw [e]
  refine ⟨?_, by omega⟩
  generalize r * ((l + (r - 1)) / r) = z at *
  omega
theorem over_lt {l r : Nat} (hr : 0 < r) (hl : l ≤ 1099511627776) (h0 : 0 < l) : r * (Pl.overS l 1 r - 1) < l ∧ 0 < Pl.overS l 1 r := by
  unfold Pl.overS
  rw [if_neg (by omega), Nat.mul_one]
  have hm := Nat.div_add_mod (l + (r - 1)) r
  have hlt := Nat.mod_lt (l + (r - 1)) hr
  have hle : (l + (r - 1)) / r ≤ l := by
    rw [Nat.div_le_iff_le_mul hr]
    have : l ≤ l * r := Nat.le_mul_of_pos_right _ hr
    omega
  have hpos : 0 < (l + (r - 1)) / r := Nat.div_pos (by omega) hr
  have e : min ((l + (r - 1)) / r) 18446744073709551615 = (l + (r - 1)) / r := by omega
  rw [e]
  refine ⟨?_, hpos⟩
  rw [Nat.mul_sub, Nat.mul_one]
  generalize r * ((l + (r - 1)) / r) = z at *
  omega

theorem next_lack {p : PS} (h : p.small) {x : Nat} (hx : x ≤ p.q) : p.lack x = x * 1000000 - p.s ∧ Pl.mulS x 1000000 = x * 1000000 := by
  obtain ⟨h1, h2, h3, h4⟩ := h
  have e := mul_small (show x ≤ 1048576 by omega)
  exact ⟨by unfold lack Pl.subS; rw [e], e⟩

theorem next_le {p : PS} (h : p.small) (x : Nat) : p.nextT x ≤ 2199023255552 := by
  have h' := h
  obtain ⟨h1, h2, h3, h4⟩ := h
  unfold nextT
  split
  · omega
  · rename_i c
    obtain ⟨e1, e2⟩ := next_lack h' (show x ≤ p.q by omega)
    split
    · omega
    · split
      · omega
      · have := (over_ge (l := p.lack x) (r := p.r) (by omega) (by omega)).2
        unfold Pl.addS
        omega

/-- At the time that is told it may be taken. -/
theorem then_at {p : PS} (h : p.small) {x : Nat} (c : p.nextB x = true) : (p.tickS (p.nextT x) p.r p.q).takeB x = true := by
  have h' := h
  obtain ⟨h1, h2, h3, h4⟩ := h
  unfold nextB at c
  unfold nextT
  split at c
  · exact absurd c (by simp)
  · rename_i c1
    rw [if_neg c1]
    obtain ⟨e1, e2⟩ := next_lack h' (show x ≤ p.q by omega)
    have hq : x * 1000000 ≤ p.q * 1000000 := by omega
    unfold takeB
    rw [e2]
    apply decide_eq_true
    split at c
    · rename_i c2
      rw [if_pos c2]
      rw [tick_eq h' (by omega) h1 h2 (Nat.le_refl _)]
      dsimp only
      rw [Nat.sub_self, Nat.mul_zero]
      omega
    · rename_i c2
      rw [if_neg c2]
      split at c
      · exact absurd c (by simp)
      · rename_i c3
        rw [if_neg c3]
        obtain ⟨o1, o2⟩ := over_ge (l := p.lack x) (r := p.r) (by omega) (by omega)
        generalize Pl.overS (p.lack x) 1 p.r = d at *
        have e3 : Pl.addS p.t d = p.t + d := by unfold Pl.addS; omega
        rw [e3]
        unfold tickS
        rw [if_neg (by omega), mul_small h2]
        dsimp only
        rw [show p.t + d - p.t = d by omega]
        unfold Pl.addS Pl.mulS
        generalize p.r * d = z at *
        omega

/-- A microsecond ahead it may not. -/
theorem then_ahead {p : PS} (h : p.small) {x : Nat} (c : p.nextB x = true) (hgt : p.t < p.nextT x) : (p.tickS (p.nextT x - 1) p.r p.q).takeB x = false := by
  have h' := h
  obtain ⟨h1, h2, h3, h4⟩ := h
  unfold nextB at c
  unfold nextT at hgt ⊢
  split at c
  · exact absurd c (by simp)
  · rename_i c1
    rw [if_neg c1] at hgt ⊢
    obtain ⟨e1, e2⟩ := next_lack h' (show x ≤ p.q by omega)
    split at c
    · rename_i c2
      rw [if_pos c2] at hgt
      omega
    · rename_i c2
      rw [if_neg c2] at hgt ⊢
      split at c
      · exact absurd c (by simp)
      · rename_i c3
        rw [if_neg c3] at hgt ⊢
        obtain ⟨o1, o2⟩ := over_ge (l := p.lack x) (r := p.r) (by omega) (by omega)
        obtain ⟨o3, o4⟩ := over_lt (l := p.lack x) (r := p.r) (by omega) (by omega) (by omega)
        generalize Pl.overS (p.lack x) 1 p.r = d at *
        have e3 : Pl.addS p.t d = p.t + d := by unfold Pl.addS; omega
        rw [e3]
        unfold takeB
        rw [e2]
        apply decide_eq_false
        unfold tickS
        rw [if_neg (by omega), mul_small h2]
        dsimp only
        rw [show p.t + d - 1 - p.t = d - 1 by omega]
        unfold Pl.addS Pl.mulS
        generalize p.r * (d - 1) = z at *
        omega
end PS
end Go.Proofs.Ytafmfkgaijnfbaa
