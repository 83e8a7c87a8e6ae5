/- Plain facts on a bucket: what is taken, wasted, and there is the rate times the time; at once is in two (no program here). -/
import Derived.Test.YtbgmkebjehapgaaBk
set_option linter.unusedVariables false
namespace Go.Proofs.Ytbgmkebjehapgaa
namespace KB

/-- Small: the rate and the time are up to 2^20, and what was used, was wasted, and is there, is the rate times the time. -/
def cons (s : KB) (u : Nat) : Prop := s.r ≤ 1048576 ∧ s.t ≤ 1048576 ∧ u + s.w + s.n = s.r * s.t
theorem cons_all {s : KB} {u : Nat} (h : s.cons u) : s.r * s.t ≤ 1099511627776 := Nat.mul_le_mul h.1 h.2.1
theorem cons_ok {s : KB} {u : Nat} (h : s.cons u) : s.ok := by
  have := cons_all h
  obtain ⟨h1, h2, h3⟩ := h
  unfold ok; omega
theorem cons_start {r : Nat} (h : r ≤ 1048576) : (start r).cons 0 := ⟨h, Nat.zero_le _, by simp [start]⟩
theorem cons_to {s : KB} {u now : Nat} (h : s.cons u) (hn : now ≤ 1048576) : (s.toS now).cons u ∧ (s.toS now).t = max s.t now ∧ (s.toS now).r = s.r := by
  have ha := cons_all h
  obtain ⟨h1, h2, h3⟩ := h
  unfold toS
  split
  · next c => exact ⟨⟨h1, h2, h3⟩, by omega, rfl⟩
  · next c =>
    refine ⟨⟨h1, hn, ?_⟩, by dsimp; omega, rfl⟩
    dsimp
    have hm : s.r * (now - s.t) ≤ 1099511627776 := Nat.mul_le_mul h1 (show now - s.t ≤ 1048576 by omega)
    have e : s.r * now = s.r * s.t + s.r * (now - s.t) := by rw [← Nat.mul_add]; congr 1; omega
    rw [e]
    unfold Pl.addS Pl.mulS
    generalize s.r * (now - s.t) = z at *
    generalize s.r * s.t = y at *
    omega
theorem cons_take {s : KB} {u x : Nat} (h : s.cons u) (hx : x ≤ 1048576) : (s.takeB x = true → (s.takeS x).cons (u + x * 1000000)) ∧ (s.takeB x = false → (s.takeS x).cons u) ∧ (s.takeS x).t = s.t ∧ (s.takeS x).r = s.r := by
  obtain ⟨h1, h2, h3⟩ := h
  have e : Pl.mulS x 1000000 = x * 1000000 := by unfold Pl.mulS; omega
  unfold takeB takeS spendB spendS
  rw [e]
  by_cases c : x * 1000000 ≤ s.n
  · rw [decide_eq_true c, if_pos c]
    exact ⟨fun _ => ⟨h1, h2, by dsimp; omega⟩, (fun h => nomatch h), rfl, rfl⟩
  · rw [decide_eq_false c, if_neg c]
    exact ⟨(fun h => nomatch h), fun _ => ⟨h1, h2, h3⟩, rfl, rfl⟩
theorem cons_waste {s : KB} {u x : Nat} (h : s.cons u) : (s.wasteS x).cons u ∧ (s.wasteS x).t = s.t ∧ (s.wasteS x).r = s.r ∧ s.wasteN x ≤ x := by
  have ha := cons_all h
  obtain ⟨h1, h2, h3⟩ := h
  refine ⟨⟨h1, h2, ?_⟩, rfl, rfl, Nat.min_le_left _ _⟩
  unfold wasteS Pl.addS
  dsimp
  generalize s.r * s.t = y at *
  omega

/-- Of a rate up to 2^20, at a time up to 2^40, no more tokens than these make. -/
def few (s : KB) : Prop := s.r ≤ 1048576 ∧ s.t ≤ 1099511627776 ∧ s.n ≤ s.r * s.t ∧ s.w ≤ 18446744073709551615
theorem few_all {s : KB} (h : s.few) : s.r * s.t ≤ 1152921504606846976 := Nat.mul_le_mul h.1 h.2.1
theorem few_ok {s : KB} (h : s.few) : s.ok := by
  have := few_all h
  obtain ⟨h1, h2, h3, h4⟩ := h
  unfold ok; omega
theorem few_start {r : Nat} (h : r ≤ 1048576) : (start r).few := ⟨h, Nat.zero_le _, by simp [start], Nat.zero_le _⟩
theorem few_to {s : KB} {now : Nat} (h : s.few) (hn : now ≤ 1099511627776) : (s.toS now).few ∧ (s.toS now).t = max s.t now := by
  have ha := few_all h
  obtain ⟨h1, h2, h3, h4⟩ := h
  unfold toS
  split
  · next c => exact ⟨⟨h1, h2, h3, h4⟩, by omega⟩
  · next c =>
    refine ⟨⟨h1, hn, ?_, h4⟩, by dsimp; omega⟩
    dsimp
    have e : s.r * now = s.r * s.t + s.r * (now - s.t) := by rw [← Nat.mul_add]; congr 1; omega
    rw [e]
    unfold Pl.addS Pl.mulS
    generalize s.r * (now - s.t) = z at *
    generalize s.r * s.t = y at *
    omega
theorem few_take {s : KB} {x : Nat} (h : s.few) : (s.takeS x).few ∧ (s.takeS x).t = s.t := by
  obtain ⟨h1, h2, h3, h4⟩ := h
  unfold takeS spendS
  split
  · exact ⟨⟨h1, h2, by dsimp; omega, h4⟩, rfl⟩
  · exact ⟨⟨h1, h2, h3, h4⟩, rfl⟩
theorem few_waste {s : KB} {x : Nat} (h : s.few) : (s.wasteS x).few ∧ (s.wasteS x).t = s.t := by
  obtain ⟨h1, h2, h3, h4⟩ := h
  exact ⟨⟨h1, h2, by unfold wasteS; dsimp; omega, Pl.addS_le _ _⟩, rfl⟩
/-- At once, or in two steps. -/
theorem twice {s : KB} (h : s.few) {a b : Nat} (ha : a ≤ 4294967295) (hb : b ≤ 4294967295) : (s.toS (s.t + a)).toS (s.t + a + b) = s.toS (s.t + a + b) := by
  have hall := few_all h
  obtain ⟨h1, h2, h3, h4⟩ := h
  have m1 : s.r * a ≤ 1048576 * 4294967295 := Nat.mul_le_mul h1 ha
  have m2 : s.r * b ≤ 1048576 * 4294967295 := Nat.mul_le_mul h1 hb
  unfold toS
  by_cases ca : a = 0
  · subst ca
    rw [if_pos (show s.t + 0 ≤ s.t by omega)]
  · rw [if_neg (show ¬ s.t + a ≤ s.t by omega), if_neg (show ¬ s.t + a + b ≤ s.t by omega)]
    dsimp only
    by_cases cb : b = 0
    · subst cb
      rw [if_pos (show s.t + a + 0 ≤ s.t + a by omega), show s.t + a + 0 = s.t + a by omega]
    · rw [if_neg (show ¬ s.t + a + b ≤ s.t + a by omega), show s.t + a + b - (s.t + a) = b by omega, show s.t + a - s.t = a by omega, show s.t + a + b - s.t = a + b by omega]
      congr 1
      unfold Pl.addS Pl.mulS
      rw [Nat.mul_add]
      generalize s.r * a = x at *
      generalize s.r * b = y at *
      generalize s.r * s.t = z at *
      omega
end KB
end Go.Proofs.Ytbgmkebjehapgaa
