/- Plain facts on rows whose places lie in a circle (no program here). -/
import Derived.Test.YtfpopbhbhdhdnaaSw
set_option linter.unusedVariables false
namespace Go.Proofs.Ytfpopbhbhdhdnaa
open Go.RowKit

/-- A row: its places, where its items begin, how many it has. -/
structure RS where
  pl : List Nat
  first : Nat
  cnt : Nat

def RS.pos (s : RS) (i : Nat) : Nat := (s.first + i) % s.pl.length
def RS.get (s : RS) (i : Nat) : Nat := s.pl.getD (s.pos i) 0
def RS.items (s : RS) : List Nat := (List.range s.cnt).map s.get
structure RS.ok (s : RS) : Prop where
  c : s.cnt ≤ s.pl.length
  f : s.first ≤ s.pl.length
  m : s.pl.length ≤ 100000

def RS.lay (s : RS) (n : Nat) : List Nat := s.items ++ List.replicate (n - s.cnt) 0
def RS.move (s : RS) (n : Nat) : RS := ⟨s.lay n, 0, s.cnt⟩
def RS.put (s : RS) (i x : Nat) : RS := ⟨s.pl.set (s.pos i) x, s.first, s.cnt⟩
def RS.narrow (s : RS) : RS := if 0 < s.cnt ∧ s.cnt ≤ s.pl.length / 4 then s.move (s.pl.length / 2) else s
def RS.wide (s : RS) : RS := if s.cnt = s.pl.length then s.move (max 1 (2 * s.cnt)) else s
def RS.push (s : RS) (x : Nat) : RS := ⟨s.wide.pl.set (s.wide.pos s.cnt) x, s.wide.first, s.cnt + 1⟩
def RS.shift0 (s : RS) : RS := ⟨(s.put 0 0).pl, s.pos 1, s.cnt - 1⟩
def RS.pop0 (s : RS) : RS := ⟨(s.put (s.cnt - 1) 0).pl, s.first, s.cnt - 1⟩
def RS.shift (s : RS) : RS := s.shift0.narrow
def RS.pop (s : RS) : RS := s.pop0.narrow

theorem RS.len_items (s : RS) : s.items.length = s.cnt := by simp [RS.items]
theorem RS.len_lay {s : RS} {n : Nat} (h : s.cnt ≤ n) : (s.lay n).length = n := by simp [RS.lay, RS.len_items]; omega
theorem RS.pos_lt {s : RS} (h : 0 < s.pl.length) (i : Nat) : s.pos i < s.pl.length := Nat.mod_lt _ h
theorem RS.item_at {s : RS} {i : Nat} (h : i < s.cnt) : s.items[i]? = some (s.get i) := by simp [RS.items, h]

theorem RS.items_ext {s t : RS} (hc : s.cnt = t.cnt) (h : ∀ i, i < s.cnt → s.get i = t.get i) : s.items = t.items := by
  apply List.ext_getElem? ; intro i
  by_cases c : i < s.cnt
  · rw [RS.item_at c, RS.item_at (by omega), h i c]
  · rw [List.getElem?_eq_none (by rw [RS.len_items]; omega), List.getElem?_eq_none (by rw [RS.len_items]; omega)]

theorem RS.move_items {s : RS} {n : Nat} (h : s.cnt ≤ n) : (s.move n).items = s.items := by
  refine RS.items_ext rfl fun i hi => ?_
  have hi' : i < s.cnt := hi
  have e : (s.move n).get i = ((s.lay n)[i % (s.lay n).length]?).getD 0 := by simp [RS.get, RS.pos, RS.move, List.getD_eq_getElem?_getD]
  rw [e, RS.len_lay h, Nat.mod_eq_of_lt (by omega), RS.lay, List.getElem?_append_left (by rw [RS.len_items]; omega), RS.item_at hi']
  rfl
theorem RS.move_ok {s : RS} {n : Nat} (h : s.cnt ≤ n) (hn : n ≤ 100000) : (s.move n).ok := by
  have e := RS.len_lay h
  exact ⟨by show s.cnt ≤ (s.lay n).length; omega, Nat.zero_le _, by show (s.lay n).length ≤ _; omega⟩
theorem RS.move_len {s : RS} {n : Nat} (h : s.cnt ≤ n) : (s.move n).pl.length = n := RS.len_lay h

theorem RS.narrow_items {s : RS} (h : s.ok) : s.narrow.items = s.items := by
  unfold RS.narrow; split
  · exact RS.move_items (by have := h.c; omega)
  · rfl
theorem RS.narrow_cnt (s : RS) : s.narrow.cnt = s.cnt := by unfold RS.narrow; split <;> rfl
theorem RS.narrow_ok {s : RS} (h : s.ok) : s.narrow.ok := by
  unfold RS.narrow; split
  · exact RS.move_ok (by have := h.c; omega) (by have := h.m; omega)
  · exact h
theorem RS.wide_items {s : RS} : s.wide.items = s.items := by
  unfold RS.wide; split
  · exact RS.move_items (by omega)
  · rfl
theorem RS.wide_cnt (s : RS) : s.wide.cnt = s.cnt := by unfold RS.wide; split <;> rfl
theorem RS.wide_ok {s : RS} (h : s.ok) (hc : s.cnt ≤ 1000) : s.wide.ok := by
  unfold RS.wide; split
  · exact RS.move_ok (by omega) (by omega)
  · exact h
theorem RS.wide_room {s : RS} (h : s.ok) : s.cnt < s.wide.pl.length := by
  unfold RS.wide; split
  · rw [RS.move_len (by omega)]; omega
  · have := h.c; omega

theorem RS.put_get {s : RS} {i j x : Nat} (hi : i < s.pl.length) (hj : j < s.pl.length) : (s.put i x).get j = if i = j then x else s.get j := by
  have hp := RS.pos_lt (s := s) (by omega) i
  unfold RS.get RS.put RS.pos at *
  simp only [List.length_set, List.getD_eq_getElem?_getD]
  by_cases c : i = j
  · subst c
    rw [List.getElem?_set_self hp, if_pos rfl]; rfl
  · rw [List.getElem?_set_ne (fun e => c (mod_inj hi hj e)), if_neg c]
theorem RS.push_items {s : RS} (h : s.ok) (x : Nat) : (s.push x).items = s.items ++ [x] := by
  have hr := RS.wide_room h
  rw [← RS.wide_items (s := s)]
  have hc := RS.wide_cnt s
  apply List.ext_getElem?; intro i
  by_cases c : i < s.cnt
  · rw [RS.item_at (show i < s.cnt + 1 by omega), List.getElem?_append_left (by rw [RS.len_items]; omega), RS.item_at (by omega)]
    have := RS.put_get (s := s.wide) (i := s.cnt) (j := i) (x := x) hr (by omega)
    rw [if_neg (by omega)] at this
    rw [← this]; rfl
  · by_cases d : i = s.cnt
    · subst d
      rw [RS.item_at (show s.cnt < s.cnt + 1 by omega), List.getElem?_append_right (by rw [RS.len_items]; omega), RS.len_items, hc, Nat.sub_self]
      have := RS.put_get (s := s.wide) (i := s.cnt) (j := s.cnt) (x := x) hr hr
      rw [if_pos rfl] at this
      show some ((s.wide.put s.cnt x).get s.cnt) = _
      rw [this]; rfl
    · rw [List.getElem?_eq_none (by rw [RS.len_items]; show s.cnt + 1 ≤ i; omega), List.getElem?_eq_none (by simp [RS.len_items, hc]; omega)]
theorem RS.push_ok {s : RS} (h : s.ok) (hc : s.cnt ≤ 1000) (x : Nat) : (s.push x).ok := by
  have hr := RS.wide_room h
  have hw := RS.wide_ok h hc
  exact ⟨by simp only [RS.push, List.length_set]; omega, by simp only [RS.push, List.length_set]; exact hw.f, by simp only [RS.push, List.length_set]; exact hw.m⟩
theorem RS.shift0_ok {s : RS} (h : s.ok) (hc : 0 < s.cnt) : s.shift0.ok := by
  have := h.c; have := h.m
  have hp := RS.pos_lt (s := s) (by omega) 1
  exact ⟨by simp only [RS.shift0, RS.put, List.length_set]; omega, by simp only [RS.shift0, RS.put, List.length_set]; omega, by simp only [RS.shift0, RS.put, List.length_set]; omega⟩
theorem RS.pop0_ok {s : RS} (h : s.ok) (hc : 0 < s.cnt) : s.pop0.ok := by
  have := h.c; have := h.m; have := h.f
  exact ⟨by simp only [RS.pop0, RS.put, List.length_set]; omega, by simp only [RS.pop0, RS.put, List.length_set]; omega, by simp only [RS.pop0, RS.put, List.length_set]; omega⟩
theorem RS.shift_items {s : RS} (h : s.ok) (hc : 0 < s.cnt) : s.shift.items = s.items.drop 1 := by
  have := h.c
  rw [RS.shift, RS.narrow_items (RS.shift0_ok h hc)]
  apply List.ext_getElem?; intro i
  rw [List.getElem?_drop]
  by_cases c : i < s.cnt - 1
  · rw [RS.item_at (show i < s.cnt - 1 from c), RS.item_at (by omega)]
    have e := RS.put_get (s := s) (i := 0) (j := 1 + i) (x := 0) (by omega) (by omega)
    rw [if_neg (by omega)] at e
    rw [← e]
    simp only [RS.get, RS.shift0, RS.pos, RS.put, List.length_set, Nat.mod_add_mod, Nat.add_assoc]
  · rw [List.getElem?_eq_none (by rw [RS.len_items]; show s.cnt - 1 ≤ i; omega), List.getElem?_eq_none (by rw [RS.len_items]; omega)]
theorem RS.pop_items {s : RS} (h : s.ok) (hc : 0 < s.cnt) : s.pop.items = s.items.take (s.cnt - 1) := by
  have := h.c
  rw [RS.pop, RS.narrow_items (RS.pop0_ok h hc)]
  apply List.ext_getElem?; intro i
  by_cases c : i < s.cnt - 1
  · rw [RS.item_at (show i < s.cnt - 1 from c), List.getElem?_take_of_lt c, RS.item_at (by omega)]
    have e := RS.put_get (s := s) (i := s.cnt - 1) (j := i) (x := 0) (by omega) (by omega)
    rw [if_neg (by omega)] at e
    rw [← e]; rfl
  · rw [List.getElem?_eq_none (by rw [RS.len_items]; show s.cnt - 1 ≤ i; omega), List.getElem?_eq_none (by rw [List.length_take, RS.len_items]; omega)]
theorem RS.shift_ok {s : RS} (h : s.ok) (hc : 0 < s.cnt) : s.shift.ok := RS.narrow_ok (RS.shift0_ok h hc)
theorem RS.pop_ok {s : RS} (h : s.ok) (hc : 0 < s.cnt) : s.pop.ok := RS.narrow_ok (RS.pop0_ok h hc)
theorem RS.shift_cnt (s : RS) : s.shift.cnt = s.cnt - 1 := RS.narrow_cnt _
theorem RS.pop_cnt (s : RS) : s.pop.cnt = s.cnt - 1 := RS.narrow_cnt _

/-- Numbers as cells. -/
def pa : Nat → Option Addr
  | 0 => none
  | n + 1 => some ⟨n, 0, none⟩
def pv (n : Nat) : Value := .pointer (pa n)
theorem pv_zero : pv 0 = .pointer none := rfl
theorem pv_succ (n : Nat) : pv (n + 1) = .pointer (some ⟨n, 0, none⟩) := rfl
def kcells (l : List Nat) : Array Value := (l.map pv).toArray
theorem kcells_at {l : List Nat} {i : Nat} (h : i < l.length) : (kcells l)[i]? = some (.pointer (pa (l.getD i 0))) := by
  simp [kcells, pv, List.getD_eq_getElem?_getD, h]
theorem kcells_set (l : List Nat) (i x : Nat) : (kcells l).setIfInBounds i (.pointer (pa (x))) = kcells (l.set i x) := by
  apply Array.ext'
  simp [kcells, pv, List.map_set]
end Go.Proofs.Ytfpopbhbhdhdnaa
