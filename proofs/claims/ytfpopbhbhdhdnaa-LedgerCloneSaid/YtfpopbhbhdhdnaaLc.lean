/- Plain facts on ledgers: packets that were sent, of which some are out (no program here). -/
import Derived.Test.YtfpopbhbhdhdnaaSw
set_option linter.unusedVariables false
namespace Go.Proofs.Ytfpopbhbhdhdnaa
open Go.RowKit

/-- A packet. -/
structure Pk where
  n : Nat
  size : Nat
  sent : Nat
  first : Nat
  deliv : Nat
  at_ : Nat
  lim : Bool
deriving DecidableEq
instance : Inhabited Pk := ⟨⟨0, 0, 0, 0, 0, 0, false⟩⟩
def Pk.cs (p : Pk) : List Value := [.int .u64 (p.n : Int), .int .u64 (p.size : Int), .int .u64 (p.sent : Int), .int .u64 (p.first : Int), .int .u64 (p.deliv : Int), .int .u64 (p.at_ : Int), .bool p.lim]
instance : Itm Pk := ⟨⟨0, 0, 0, 0, 0, 0, false⟩, 7, Pk.cs, by decide, fun _ => rfl, fun r v h => by
  simp only [Pk.cs, List.mem_cons, List.not_mem_nil, or_false] at h; rcases h with rfl | rfl | rfl | rfl | rfl | rfl | rfl <;> rfl⟩
structure Pk.ok (p : Pk) : Prop where
  n : p.n ≤ 100000
  size : p.size ≤ 18446744073709551615
  sent : p.sent ≤ 18446744073709551615
  first : p.first ≤ 18446744073709551615
  deliv : p.deliv ≤ 18446744073709551615
  at_ : p.at_ ≤ 18446744073709551615

/-- A packet that is kept, at a block of memory. -/
structure Kp where
  b : Nat
  p : Pk
  gone : Bool
instance : Inhabited Kp := ⟨⟨0, default, false⟩⟩
def Kp.cells (p : Pk) (gone : Bool) : Array Value := (p.cs ++ [Value.bool gone]).toArray

/-- Those that are out. -/
def outK (ks : List Kp) : List Kp := ks.filter (fun k => !k.gone)
def outP (ks : List Kp) : List Pk := (outK ks).map Kp.p
def totP (l : List Pk) : Nat := (l.map Pk.size).foldr (· + ·) 0
def tot (ks : List Kp) : Nat := totP (outP ks)
/-- 2^64. -/
def M64 : Nat := 18446744073709551616
theorem M64_eq : M64 = 18446744073709551616 := rfl
theorem M64_pos : 0 < M64 := by decide

/-- A ledger. -/
structure LS where
  ks : List Kp
  mixed : Bool
  reorder : Nat
  next : Nat
  top : Nat
  topped : Bool
structure LS.ok (s : LS) : Prop where
  nodup : (s.ks.map Kp.b).Nodup
  rise : s.ks.Pairwise fun x y => x.p.n < y.p.n
  lt : ∀ k ∈ s.ks, k.p.n < s.next
  pk : ∀ k ∈ s.ks, k.p.ok
  mono : s.mixed = false → s.ks.Pairwise fun x y => x.p.sent ≤ y.p.sent
  next : s.next ≤ 500
  reorder : s.reorder ≤ 18446744073709551615
  top : s.top ≤ 100000
  un : s.topped = false → s.top = 0

theorem totP_nil : totP [] = 0 := rfl
theorem totP_cons (p : Pk) (l : List Pk) : totP (p :: l) = p.size + totP l := rfl
theorem totP_append (l m : List Pk) : totP (l ++ m) = totP l + totP m := by
  induction l with
  | nil => simp [totP_nil]
  | cons x t ih => rw [List.cons_append, totP_cons, totP_cons, ih]; omega
theorem totP_le {l : List Pk} (h : ∀ p ∈ l, p.size < M64) : totP l ≤ l.length * M64 := by
  induction l with
  | nil => simp [totP_nil]
  | cons x t ih =>
    rw [totP_cons, List.length_cons, Nat.succ_mul]
    have := ih (fun p hp => h p (List.mem_cons_of_mem _ hp))
    have := h x List.mem_cons_self
    omega

/-- Those of these blocks gone. -/
def markK (B : List Nat) (ks : List Kp) : List Kp := ks.map fun k => if k.b ∈ B then { k with gone := true } else k
theorem markK_nil (ks : List Kp) : markK [] ks = ks := by simp [markK]
theorem markK_b (B : List Nat) (ks : List Kp) : (markK B ks).map Kp.b = ks.map Kp.b := by
  rw [markK, List.map_map]; apply List.map_congr_left; intro k _; show (if k.b ∈ B then _ else _ : Kp).b = _; split <;> rfl
theorem markK_len (B : List Nat) (ks : List Kp) : (markK B ks).length = ks.length := by simp [markK]
theorem markK_mem {B : List Nat} {ks : List Kp} {k : Kp} (h : k ∈ markK B ks) : ∃ x ∈ ks, x.b = k.b ∧ x.p = k.p ∧ k.gone = (x.gone || decide (x.b ∈ B)) := by
  obtain ⟨x, hx, rfl⟩ := List.mem_map.1 h
  refine ⟨x, hx, ?_⟩
  by_cases c : x.b ∈ B <;> simp [c]
theorem markK_of {B : List Nat} {ks : List Kp} {x : Kp} (h : x ∈ ks) : (⟨x.b, x.p, x.gone || decide (x.b ∈ B)⟩ : Kp) ∈ markK B ks := by
  refine List.mem_map.2 ⟨x, h, ?_⟩
  by_cases c : x.b ∈ B
  · simp [c]
  · simp [c]
theorem markK_append (B C : List Nat) (ks : List Kp) : markK (B ++ C) ks = markK C (markK B ks) := by
  rw [markK, markK, markK, List.map_map]
  apply List.map_congr_left
  intro k _
  by_cases h1 : k.b ∈ B <;> by_cases h2 : k.b ∈ C <;> simp [h1, h2]
theorem markK_pair {B : List Nat} {ks : List Kp} {r : Pk → Pk → Prop} (h : ks.Pairwise fun x y => r x.p y.p) : (markK B ks).Pairwise fun x y => r x.p y.p := by
  rw [markK, List.pairwise_map]
  refine h.imp fun {x y} hr => ?_
  have e : ∀ z : Kp, (if z.b ∈ B then { z with gone := true } else z : Kp).p = z.p := fun z => by split <;> rfl
  rw [e, e]; exact hr
theorem outK_cons (x : Kp) (t : List Kp) : outK (x :: t) = if x.gone then outK t else x :: outK t := by
  unfold outK; rw [List.filter_cons]; cases x.gone <;> rfl
theorem outK_mark (B : List Nat) (ks : List Kp) : outK (markK B ks) = (outK ks).filter (fun k => decide (k.b ∉ B)) := by
  induction ks with
  | nil => rfl
  | cons x t ih =>
    have e : markK B (x :: t) = (if x.b ∈ B then { x with gone := true } else x) :: markK B t := rfl
    rw [e, outK_cons, outK_cons, ih]
    by_cases c : x.b ∈ B
    · rw [if_pos c]
      cases hg : x.gone
      · simp [c]
      · simp
    · rw [if_neg c]
      cases hg : x.gone
      · simp [c]
      · simp

/-- A ledger less some packets. -/
def LS.take (s : LS) (B : List Nat) : LS := { s with ks := markK B s.ks }
theorem LS.take_nil (s : LS) : s.take [] = s := by unfold LS.take; rw [markK_nil]
theorem LS.take_append (s : LS) (B C : List Nat) : s.take (B ++ C) = (s.take B).take C := by unfold LS.take; rw [markK_append]
theorem LS.take_ok {s : LS} (h : s.ok) (B : List Nat) : (s.take B).ok := by
  refine ⟨by show (List.map Kp.b (markK B s.ks)).Nodup; rw [markK_b]; exact h.nodup, markK_pair (r := fun x y => x.n < y.n) h.rise, fun k hk => ?_, fun k hk => ?_, fun hm => markK_pair (r := fun x y => x.sent ≤ y.sent) (h.mono hm), h.next, h.reorder, h.top, h.un⟩
  · obtain ⟨x, hx, _, e, _⟩ := markK_mem hk; rw [← e]; exact h.lt x hx
  · obtain ⟨x, hx, _, e, _⟩ := markK_mem hk; rw [← e]; exact h.pk x hx
theorem LS.len_le {s : LS} (h : s.ok) : s.ks.length ≤ s.next := by
  have key : ∀ (l : List Kp) (m : Nat), l.Pairwise (fun x y => x.p.n < y.p.n) → (∀ k ∈ l, m ≤ k.p.n ∧ k.p.n < s.next) → l.length + m ≤ s.next ∨ l = [] := by
    intro l
    induction l with
    | nil => intro m _ _; exact .inr rfl
    | cons x t ih =>
      intro m hp hb
      have hp' := List.pairwise_cons.1 hp
      have hx := hb x List.mem_cons_self
      left
      rcases ih (m + 1) hp'.2 (fun k hk => ⟨by have := hp'.1 k hk; omega, (hb k (List.mem_cons_of_mem _ hk)).2⟩) with c | rfl
      · simp; omega
      · simp; omega
  rcases key s.ks 0 h.rise (fun k hk => ⟨Nat.zero_le _, h.lt k hk⟩) with c | c
  · omega
  · rw [c]; simp
theorem outK_sub (ks : List Kp) : (outK ks).Sublist ks := List.filter_sublist
theorem LS.out_le {s : LS} (h : s.ok) : (outK s.ks).length ≤ 500 := by
  have := (outK_sub s.ks).length_le; have := LS.len_le h; have := h.next; omega
theorem Pk.ok.lt {p : Pk} (h : p.ok) : p.size < M64 := by have := h.size; rw [M64_eq]; omega
theorem LS.tot_le {s : LS} (h : s.ok) : tot s.ks ≤ 500 * M64 := by
  have := totP_le (l := outP s.ks) (fun p hp => by
    obtain ⟨k, hk, rfl⟩ := List.mem_map.1 hp
    exact (h.pk k ((outK_sub s.ks).mem hk)).lt)
  have h2 : (outP s.ks).length ≤ 500 := by unfold outP; rw [List.length_map]; exact LS.out_le h
  exact Nat.le_trans this (Nat.mul_le_mul_right M64 h2)

/-- One packet less. -/
theorem filter_one {l : List Kp} {x : Kp} (hn : (l.map Kp.b).Nodup) (hx : x ∈ l) : ∃ a c, l = a ++ x :: c ∧ l.filter (fun k => decide (k.b ∉ [x.b])) = a ++ c := by
  obtain ⟨a, c, rfl⟩ := List.append_of_mem hx
  refine ⟨a, c, rfl, ?_⟩
  simp only [List.map_append, List.map_cons] at hn
  have h2 := List.nodup_append.1 hn
  have h3 := (List.nodup_cons.1 h2.2.1).1
  rw [List.filter_append, List.filter_cons]
  have ea : a.filter (fun k => decide (k.b ∉ [x.b])) = a := List.filter_eq_self.2 fun k hk => by
    have := h2.2.2 k.b (List.mem_map_of_mem hk) x.b List.mem_cons_self
    simpa using this
  have ec : c.filter (fun k => decide (k.b ∉ [x.b])) = c := List.filter_eq_self.2 fun k hk => by
    have : k.b ≠ x.b := fun e => h3 (by rw [← e]; exact List.mem_map_of_mem hk)
    simpa using this
  rw [ea, ec]; simp
theorem outK_nodup {s : LS} (h : s.ok) : ((outK s.ks).map Kp.b).Nodup := h.nodup.sublist ((outK_sub s.ks).map Kp.b)
theorem take_one {s : LS} (h : s.ok) {x : Kp} (hx : x ∈ s.ks) (hg : x.gone = false) :
    (outK (s.take [x.b]).ks).length + 1 = (outK s.ks).length ∧ tot (s.take [x.b]).ks + x.p.size = tot s.ks := by
  have hm : x ∈ outK s.ks := List.mem_filter.2 ⟨hx, by simp [hg]⟩
  obtain ⟨a, c, e1, e2⟩ := filter_one (outK_nodup h) hm
  have e3 : outK (s.take [x.b]).ks = a ++ c := by show outK (markK _ _) = _; rw [outK_mark]; exact e2
  constructor
  · rw [e3, e1]; simp; omega
  · unfold tot outP
    rw [e3, e1]; simp only [List.map_append, List.map_cons, totP_append, totP_cons]; omega
theorem add_parts (T c : Nat) (hc : c < M64) : (T + c) / M64 = T / M64 + (if M64 ≤ T % M64 + c then 1 else 0) ∧ (T + c) % M64 = (if M64 ≤ T % M64 + c then T % M64 + c - M64 else T % M64 + c) := by
  have h := Nat.mod_add_div T M64
  have hl := Nat.mod_lt T M64_pos
  have hM := M64_pos
  generalize T % M64 = r at *
  generalize T / M64 = q at *
  subst h
  by_cases k : M64 ≤ r + c
  · rw [if_pos k, if_pos k]
    have e : r + M64 * q + c = (r + c - M64) + M64 * (q + 1) := by rw [Nat.mul_succ]; omega
    rw [e, Nat.add_mul_div_left _ _ hM, Nat.add_mul_mod_self_left, Nat.div_eq_of_lt (by omega), Nat.mod_eq_of_lt (by omega)]
    omega
  · rw [if_neg k, if_neg k]
    have e : r + M64 * q + c = (r + c) + M64 * q := by omega
    rw [e, Nat.add_mul_div_left _ _ hM, Nat.add_mul_mod_self_left, Nat.div_eq_of_lt (by omega), Nat.mod_eq_of_lt (by omega)]
    omega
theorem sub_parts (T c : Nat) (hc : c < M64) : (if (T + c) % M64 < c then (T + c) / M64 = T / M64 + 1 ∧ (T + c) % M64 + M64 - c = T % M64 else (T + c) / M64 = T / M64 ∧ (T + c) % M64 - c = T % M64) := by
  obtain ⟨h1, h2⟩ := add_parts T c hc
  have hl := Nat.mod_lt T M64_pos
  by_cases k : M64 ≤ T % M64 + c
  · rw [if_pos k] at h1 h2
    rw [if_pos (by omega)]
    omega
  · rw [if_neg k] at h1 h2
    rw [if_neg (by omega)]
    omega

/-- A prefix with one more. -/
theorem pre_filter {α : Type} (f : α → Bool) {l : List α} {i : Nat} (h : i < l.length) (d : α) : (l.take (i + 1)).filter f = (l.take i).filter f ++ (if f (l.getD i d) then [l.getD i d] else []) := by
  rw [List.take_succ_eq_append_getElem h, List.filter_append]
  congr 1
  rw [List.getD_eq_getElem?_getD, List.getElem?_eq_getElem h]
  simp [List.filter_cons]
theorem pre_of_take {α : Type} (f : α → Bool) (l : List α) (i : Nat) : (l.take i).filter f <+: l.filter f := by
  have e : l.filter f = (l.take i).filter f ++ (l.drop i).filter f := by rw [← List.filter_append, List.take_append_drop]
  rw [e]; exact List.prefix_append _ _
end Go.Proofs.Ytfpopbhbhdhdnaa
