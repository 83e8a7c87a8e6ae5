/- Plain facts on ranges of numbers: put together they rise, and are apart; a set of numbers has one list of such ranges (no program here). -/
import Derived.Test.YtfpopbhbhdhdnaaSw
set_option linter.unusedVariables false
namespace Go.Proofs.Ytfpopbhbhdhdnaa
open Go.RowKit

/-- A range: all numbers from a to b. -/
structure Rn where
  a : Nat
  b : Nat
deriving DecidableEq

instance : Itm Rn := ⟨⟨0, 0⟩, 2, fun r => [.int .u64 (r.a : Int), .int .u64 (r.b : Int)], by decide, fun _ => rfl, fun r v h => by simp only [List.mem_cons, List.not_mem_nil, or_false] at h; rcases h with rfl | rfl <;> rfl⟩
instance : Inhabited Rn := ⟨⟨0, 0⟩⟩
def Rn.agg (r : Rn) : Value := .agg #[.int .u64 (r.a : Int), .int .u64 (r.b : Int)]
/-- A range that may be put. -/
structure Rn.ok (r : Rn) : Prop where
  le : r.a ≤ r.b
  lt : r.b < 18446744073709551615
def okB (r : Rn) : Bool := !(decide (r.b < r.a) || decide (r.b = 18446744073709551615))
def Rn.u64 (r : Rn) : Prop := r.a ≤ 18446744073709551615 ∧ r.b ≤ 18446744073709551615
theorem okB_iff {r : Rn} (h : r.u64) : okB r = true ↔ r.ok := by
  have := h.2
  unfold okB
  constructor
  · intro k
    simp at k
    exact ⟨k.1, by omega⟩
  · intro k
    have := k.le; have := k.lt
    simp; omega

def InR (l : List Rn) (n : Nat) : Prop := ∃ r ∈ l, r.a ≤ n ∧ n ≤ r.b
def Rise (l : List Rn) : Prop := l.Pairwise fun x y => x.a ≤ y.a
/-- Ranges that rise, and are apart. -/
structure Canon (l : List Rn) : Prop where
  apart : l.Pairwise fun x y => x.b + 1 < y.a
  ok : ∀ r ∈ l, r.ok

theorem inR_nil (n : Nat) : ¬ InR [] n := by rintro ⟨r, h, _⟩; cases h
theorem inR_cons {x : Rn} {l : List Rn} {n : Nat} : InR (x :: l) n ↔ (x.a ≤ n ∧ n ≤ x.b) ∨ InR l n := by
  constructor
  · rintro ⟨r, h, k⟩
    rcases List.mem_cons.1 h with rfl | h
    · exact .inl k
    · exact .inr ⟨r, h, k⟩
  · rintro (k | ⟨r, h, k⟩)
    · exact ⟨x, List.mem_cons_self, k⟩
    · exact ⟨r, List.mem_cons_of_mem _ h, k⟩
theorem inR_append {l m : List Rn} {n : Nat} : InR (l ++ m) n ↔ InR l n ∨ InR m n := by
  constructor
  · rintro ⟨r, h, k⟩
    rcases List.mem_append.1 h with h | h
    · exact .inl ⟨r, h, k⟩
    · exact .inr ⟨r, h, k⟩
  · rintro (⟨r, h, k⟩ | ⟨r, h, k⟩)
    · exact ⟨r, List.mem_append_left _ h, k⟩
    · exact ⟨r, List.mem_append_right _ h, k⟩
theorem inR_perm {l m : List Rn} (h : l.Perm m) {n : Nat} : InR l n ↔ InR m n :=
  ⟨fun ⟨r, a, k⟩ => ⟨r, h.mem_iff.1 a, k⟩, fun ⟨r, a, k⟩ => ⟨r, h.mem_iff.2 a, k⟩⟩

/-- Ranges that rise, put together, behind one that grows. -/
def goR : Rn → List Rn → List Rn
  | cur, [] => [cur]
  | cur, r :: t => if cur.b + 1 < r.a then cur :: goR r t else goR ⟨cur.a, max cur.b r.b⟩ t
def tog : List Rn → List Rn
  | [] => []
  | r :: t => goR r t

theorem goR_len : ∀ (l : List Rn) (cur : Rn), (goR cur l).length ≤ l.length + 1
  | [], _ => by simp [goR]
  | r :: t, cur => by
    rw [goR]; split
    · have := goR_len t r; simp; omega
    · have := goR_len t ⟨cur.a, max cur.b r.b⟩; simp; omega
theorem goR_pos : ∀ (l : List Rn) (cur : Rn), 0 < (goR cur l).length
  | [], _ => by simp [goR]
  | r :: t, cur => by
    rw [goR]; split
    · simp
    · exact goR_pos t _
theorem tog_len (l : List Rn) : (tog l).length ≤ l.length := by
  cases l with
  | nil => exact Nat.le_refl _
  | cons r t => have := goR_len t r; simp [tog]; omega
theorem tog_pos {l : List Rn} (h : 0 < l.length) : 0 < (tog l).length := by
  cases l with
  | nil => simp at h
  | cons r t => exact goR_pos t r

theorem goR_spec : ∀ (l : List Rn) (cur : Rn), (∀ r ∈ l, cur.a ≤ r.a) → Rise l → cur.ok → (∀ r ∈ l, r.ok) →
    Canon (goR cur l) ∧ (∀ x ∈ goR cur l, cur.a ≤ x.a) ∧ ∀ n, InR (goR cur l) n ↔ InR (cur :: l) n
  | [], cur, _, _, hc, _ => by
    refine ⟨⟨by simp [goR], ?_⟩, ?_, fun n => Iff.rfl⟩
    · intro r h; simp [goR] at h; subst h; exact hc
    · intro x h; simp [goR] at h; subst h; exact Nat.le_refl _
  | r :: t, cur, hl, hr, hc, ho => by
    have hr' := List.pairwise_cons.1 hr
    have hra := hl r List.mem_cons_self
    have hro := ho r List.mem_cons_self
    rw [goR]; split
    · rename_i hlt
      obtain ⟨⟨h1, h2⟩, h3, h4⟩ := goR_spec t r hr'.1 hr'.2 hro (fun x hx => ho x (List.mem_cons_of_mem _ hx))
      refine ⟨⟨List.pairwise_cons.2 ⟨fun x hx => ?_, h1⟩, ?_⟩, ?_, fun n => ?_⟩
      · have := h3 x hx; omega
      · intro x hx
        rcases List.mem_cons.1 hx with rfl | hx
        · exact hc
        · exact h2 x hx
      · intro x hx
        rcases List.mem_cons.1 hx with rfl | hx
        · exact Nat.le_refl _
        · have := h3 x hx; omega
      · rw [inR_cons, h4, inR_cons (x := cur)]
    · rename_i hlt
      have hc' : (⟨cur.a, max cur.b r.b⟩ : Rn).ok := ⟨by have := hc.le; show cur.a ≤ max cur.b r.b; omega, by have := hc.lt; have := hro.lt; show max cur.b r.b < _; omega⟩
      obtain ⟨h1, h3, h4⟩ := goR_spec t ⟨cur.a, max cur.b r.b⟩ (fun x hx => hl x (List.mem_cons_of_mem _ hx)) hr'.2 hc' (fun x hx => ho x (List.mem_cons_of_mem _ hx))
      refine ⟨h1, h3, fun n => ?_⟩
      rw [h4, inR_cons, inR_cons (x := cur), inR_cons (x := r)]
      have := hc.le; have := hro.le
      show (cur.a ≤ n ∧ n ≤ max cur.b r.b) ∨ _ ↔ _
      constructor
      · rintro (h | h)
        · by_cases c : n ≤ cur.b
          · exact .inl ⟨h.1, c⟩
          · exact .inr (.inl (by omega))
        · exact .inr (.inr h)
      · rintro (h | h | h)
        · exact .inl (by omega)
        · exact .inl (by omega)
        · exact .inr h
theorem tog_spec {l : List Rn} (hr : Rise l) (ho : ∀ r ∈ l, r.ok) : Canon (tog l) ∧ ∀ n, InR (tog l) n ↔ InR l n := by
  cases l with
  | nil => exact ⟨⟨List.Pairwise.nil, fun r h => by cases h⟩, fun n => Iff.rfl⟩
  | cons r t =>
    have hr' := List.pairwise_cons.1 hr
    obtain ⟨h1, _, h3⟩ := goR_spec t r hr'.1 hr'.2 (ho r List.mem_cons_self) (fun x hx => ho x (List.mem_cons_of_mem _ hx))
    exact ⟨h1, h3⟩

theorem Canon.tail {x : Rn} {l : List Rn} (h : Canon (x :: l)) : Canon l := ⟨(List.pairwise_cons.1 h.apart).2, fun r hr => h.ok r (List.mem_cons_of_mem _ hr)⟩
theorem Canon.first {x : Rn} {l : List Rn} (h : Canon (x :: l)) {n : Nat} (hn : InR l n) : x.b + 1 < n := by
  obtain ⟨r, hr, k⟩ := hn
  have := (List.pairwise_cons.1 h.apart).1 r hr
  omega
/-- A set of numbers has one list of ranges that rise, and are apart. -/
theorem canon_one : ∀ {l m : List Rn}, Canon l → Canon m → (∀ n, InR l n ↔ InR m n) → l = m
  | [], [], _, _, _ => rfl
  | [], y :: m, _, hm, h => by
    have := (h y.a).2 (inR_cons.2 (.inl ⟨Nat.le_refl _, (hm.ok y List.mem_cons_self).le⟩))
    exact absurd this (inR_nil _)
  | x :: l, [], hl, _, h => by
    have := (h x.a).1 (inR_cons.2 (.inl ⟨Nat.le_refl _, (hl.ok x List.mem_cons_self).le⟩))
    exact absurd this (inR_nil _)
  | x :: l, y :: m, hl, hm, h => by
    have xo := (hl.ok x List.mem_cons_self).le
    have yo := (hm.ok y List.mem_cons_self).le
    have low : ∀ {z : Rn} {k : List Rn} {n : Nat}, Canon (z :: k) → InR (z :: k) n → z.a ≤ n := fun {z k n} hc hi => by
      rcases inR_cons.1 hi with c | c
      · exact c.1
      · have := hc.first c; have := (hc.ok z List.mem_cons_self).le; omega
    have e1 : y.a ≤ x.a := low hm ((h x.a).1 (inR_cons.2 (.inl ⟨Nat.le_refl _, xo⟩)))
    have e2 : x.a ≤ y.a := low hl ((h y.a).2 (inR_cons.2 (.inl ⟨Nat.le_refl _, yo⟩)))
    have up : ∀ {z : Rn} {k : List Rn}, Canon (z :: k) → ¬ InR (z :: k) (z.b + 1) := fun {z k} hc hi => by
      rcases inR_cons.1 hi with c | c
      · omega
      · have := hc.first c; omega
    have e3 : x.b = y.b := by
      rcases Nat.lt_trichotomy x.b y.b with c | c | c
      · exact absurd ((h (x.b + 1)).2 (inR_cons.2 (.inl (by omega)))) (up hl)
      · exact c
      · exact absurd ((h (y.b + 1)).1 (inR_cons.2 (.inl (by omega)))) (up hm)
    have exy : x = y := by
      cases x; cases y; simp at e1 e2 e3 ⊢; omega
    subst exy
    congr 1
    refine canon_one hl.tail hm.tail fun n => ?_
    constructor
    · intro k
      have := hl.first k
      rcases inR_cons.1 ((h n).1 (inR_cons.2 (.inr k))) with c | c
      · omega
      · exact c
    · intro k
      have := hm.first k
      rcases inR_cons.1 ((h n).2 (inR_cons.2 (.inr k))) with c | c
      · omega
      · exact c

/-- What Put leaves of a set and of ranges. -/
structure Puts (l p q : List Rn) : Prop where
  canon : Canon q
  mem : ∀ n, InR q n ↔ InR l n ∨ InR p n
  len : q.length ≤ l.length + p.length
theorem puts_of {l p d : List Rn} (hp : d.Perm (l ++ p)) (hr : Rise d) (hl : Canon l) (ho : ∀ r ∈ p, r.ok) : Puts l p (tog d) := by
  have ho' : ∀ r ∈ d, r.ok := fun r hr => by
    rcases List.mem_append.1 (hp.mem_iff.1 hr) with c | c
    · exact hl.ok r c
    · exact ho r c
  obtain ⟨h1, h2⟩ := tog_spec hr ho'
  refine ⟨h1, fun n => ?_, ?_⟩
  · rw [h2, inR_perm hp, inR_append]
  · have := tog_len d; have := hp.length_eq; simp at this; omega

/-- One by one, from a place on, back and round: all of them. -/
def spun (l : List Rn) (s i : Nat) : Rn := l.getD ((s - i) % l.length) ⟨0, 0⟩
def Some1 (l : List Rn) (s k n : Nat) : Prop := ∃ i, i < k ∧ (spun l s i).a ≤ n ∧ n ≤ (spun l s i).b
theorem some1_succ {l : List Rn} {s k n : Nat} : Some1 l s (k + 1) n ↔ Some1 l s k n ∨ ((spun l s k).a ≤ n ∧ n ≤ (spun l s k).b) := by
  constructor
  · rintro ⟨i, hi, h⟩
    by_cases c : i = k
    · subst c; exact .inr h
    · exact .inl ⟨i, by omega, h⟩
  · rintro (⟨i, hi, h⟩ | h)
    · exact ⟨i, by omega, h⟩
    · exact ⟨k, by omega, h⟩
theorem some1_all {l : List Rn} {s n : Nat} (hs : l.length ≤ s + 1) : Some1 l s l.length n ↔ InR l n := by
  constructor
  · rintro ⟨i, hi, h⟩
    have hlt : (s - i) % l.length < l.length := Nat.mod_lt _ (by omega)
    refine ⟨spun l s i, ?_, h⟩
    unfold spun
    simp [List.getD_eq_getElem?_getD, hlt]
  · rintro ⟨r, hr, h⟩
    obtain ⟨j, hj, e⟩ := List.mem_iff_getElem.1 hr
    have hpos : 0 < l.length := by omega
    refine ⟨(s - j) % l.length, Nat.mod_lt _ hpos, ?_⟩
    have e2 : (s - (s - j) % l.length) % l.length = j := by
      have d := Nat.mod_add_div (s - j) l.length
      have b := Nat.mod_lt (s - j) hpos
      have : s - (s - j) % l.length = j + l.length * ((s - j) / l.length) := by omega
      rw [this, Nat.add_mul_mod_self_left, Nat.mod_eq_of_lt hj]
    unfold spun
    rw [e2]
    simp [List.getD_eq_getElem?_getD, hj, e]
    exact h
end Go.Proofs.Ytfpopbhbhdhdnaa
