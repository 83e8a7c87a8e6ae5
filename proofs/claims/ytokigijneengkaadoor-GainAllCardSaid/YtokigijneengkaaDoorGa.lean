/- Plain facts on states' names and gains; the map of names that package gain makes, over this translation. -/
import Derived.Test.YtokigijneengkaaDoorProg
import Derived.Test.YtokigijneengkaaDoorBlk
import Derived.Maps.OwnSet
import Derived.Maps.RangeWalk
import Derived.Sort.KeysCollected
import Derived.WalkLawsBesides
import Derived.Lib.Hide
set_option linter.unusedVariables false
namespace Go.Proofs.YtokigijneengkaaDoor
open Go.RowKit Go.Maps

/-- A state's gain of the rate, and of what is in flight, in hundredths. -/
def rateG : Nat → Nat
  | 0 => 277 | 1 => 36 | 2 => 75 | 3 => 100 | 4 => 100 | 5 => 125 | 6 => 100 | _ => 0
def flightG : Nat → Nat
  | 0 => 200 | 1 => 200 | 2 => 200 | 3 => 200 | 4 => 200 | 5 => 225 | 6 => 50 | _ => 0
theorem rateG_le (k : Nat) : rateG k ≤ 277 := by unfold rateG; split <;> omega
theorem flightG_le (k : Nat) : flightG k ≤ 225 := by unfold flightG; split <;> omega
/-- A state's name, as its bytes. -/
def nmG : Nat → List UInt8
  | 0 => [115, 116, 97, 114, 116, 117, 112]
  | 1 => [100, 114, 97, 105, 110]
  | 2 => [100, 111, 119, 110]
  | 3 => [99, 114, 117, 105, 115, 101]
  | 4 => [114, 101, 102, 105, 108, 108]
  | 5 => [117, 112]
  | 6 => [112, 114, 111, 98, 101]
  | _ => []
def nmB (k : Nat) : ByteArray := ⟨(nmG k).toArray⟩
theorem seven {P : Nat → Prop} (h0 : P 0) (h1 : P 1) (h2 : P 2) (h3 : P 3) (h4 : P 4) (h5 : P 5) (h6 : P 6) : ∀ k, k < 7 → P k
  | 0, _ => h0 | 1, _ => h1 | 2, _ => h2 | 3, _ => h3 | 4, _ => h4 | 5, _ => h5 | 6, _ => h6
  | n + 7, h => absurd h (by omega)
theorem nm_inj : ∀ i, i < 7 → ∀ j, j < 7 → nmG i = nmG j → i = j := by decide
/-- Whose name it is: a state's number, or 7. -/
def idxG (b : List UInt8) : Nat :=
  if b = nmG 0 then 0 else if b = nmG 1 then 1 else if b = nmG 2 then 2 else if b = nmG 3 then 3 else if b = nmG 4 then 4 else if b = nmG 5 then 5 else if b = nmG 6 then 6 else 7
theorem idx_le (b : List UInt8) : idxG b ≤ 7 := by unfold idxG; repeat' split <;> try omega
theorem idx_nm : ∀ k, k < 7 → idxG (nmG k) = k := by decide
theorem nm_idx (b : List UInt8) (h : idxG b < 7) : b = nmG (idxG b) := by
  unfold idxG at *
  repeat' (split <;> try assumption)
  all_goals simp_all
theorem idx_eq (b : List UInt8) (k : Nat) (hk : k < 7) : b = nmG k ↔ idxG b = k :=
  ⟨fun e => by rw [e]; exact idx_nm k hk, fun e => by have := nm_idx b (by omega); rw [e] at this; exact this⟩

/-- The map's entries, as read. -/
def stD (k : Int) : DataW Unit := .lit (.int .i64 k)
def esG : List (Lit × DataW Unit) := [(.string (nmG 3), stD 3), (.string (nmG 2), stD 2), (.string (nmG 1), stD 1), (.string (nmG 6), stD 6), (.string (nmG 4), stD 4), (.string (nmG 0), stD 0), (.string (nmG 5), stD 5)]
def dG : DataW Unit := .map esG
theorem dG_eq : ((((((((.map [] : DataW Unit).put (.string (nmG 0)) (stD 0)).put (.string (nmG 1)) (stD 1)).put (.string (nmG 2)) (stD 2)).put (.string (nmG 3)) (stD 3)).put (.string (nmG 4)) (stD 4)).put (.string (nmG 5)) (stD 5)).put (.string (nmG 6)) (stD 6)) = dG := by rfl
theorem sameStr (a b : List UInt8) : (Lit.string a).sameKey (.string b) = (a == b) := rfl
theorem at_G (b : List UInt8) : dG.atKey (.string b) (stD 0) = stD (if idxG b < 7 then idxG b else 0 : Nat) ∧ Maps.has dG (.string b) = decide (idxG b < 7) := by
  by_cases h : idxG b < 7
  · have e := nm_idx b h
    rw [e]
    generalize idxG b = k at h
    revert k
    exact seven ⟨rfl, rfl⟩ ⟨rfl, rfl⟩ ⟨rfl, rfl⟩ ⟨rfl, rfl⟩ ⟨rfl, rfl⟩ ⟨rfl, rfl⟩ ⟨rfl, rfl⟩
  · have hn : ∀ k, k < 7 → (nmG k == b) = false := fun k hk => beq_eq_false_iff_ne.2 (fun e => h (by rw [(idx_eq b k hk).1 e.symm]; exact hk))
    have h0 := hn 0 (by omega)
    have h1 := hn 1 (by omega)
    have h2 := hn 2 (by omega)
    have h3 := hn 3 (by omega)
    have h4 := hn 4 (by omega)
    have h5 := hn 5 (by omega)
    have h6 := hn 6 (by omega)
    rw [if_neg h]
    constructor
    · unfold dG DataW.atKey esG
      simp only [List.find?_cons, List.find?_nil, sameStr, h0, h1, h2, h3, h4, h5, h6]
      rfl
    · unfold dG Maps.has esG
      simp only [List.any_cons, List.any_nil, sameStr, h0, h1, h2, h3, h4, h5, h6, decide_eq_false h]
      rfl
theorem at_none {es : List (Lit × DataW Unit)} {k : Lit} {z : DataW Unit} (h : es.find? (fun p => p.1.sameKey k) = none) : (DataW.map es).atKey k z = z := by
  simp [DataW.atKey, h]
theorem in_G {x : List UInt8} {c : Int} (h : ∀ zd, dG.atKey (.string x) zd = .lit (.int .i64 c)) : ∃ i : Nat, i < 7 ∧ x = nmG i ∧ c = (i : Int) := by
  by_cases hi : idxG x < 7
  · refine ⟨idxG x, hi, nm_idx x hi, ?_⟩
    have a := (at_G x).1
    rw [h, if_pos hi] at a
    unfold stD at a
    injection a with a
    injection a with _ a
  · have b := (at_G x).2
    rw [decide_eq_false hi] at b
    have a := h .nil
    have e : dG.atKey (.string x) .nil = .nil := by
      have : esG.find? (fun p => p.1.sameKey (.string x)) = none := by
        rw [List.find?_eq_none]
        intro p hp
        unfold dG Maps.has at b
        have := List.any_eq_false.1 b p hp
        simpa using this
      exact at_none this
    rw [e] at a
    cases a

theorem lawS : Keyed Tryd.prog 9 := string_keyed Tryd.underlying9
theorem zeroS (w : World) : (zeroValue 22).run Tryd.prog w = .ok (.int .i64 0) w := by kernel_rfl
theorem keyN (k : Nat) (hk : k < 7) (s : ByteArray) (hs : s = nmB k) : keyOf Tryd.prog 9 (.string s) = some (.string (nmG k)) := by
  subst hs
  have := Go.WideMaps.keyOf_string_mk (s := nmB k) Tryd.underlying9 (by revert k; exact seven (by decide) (by decide) (by decide) (by decide) (by decide) (by decide) (by decide))
  simpa [nmB] using this

/-- Block b is the map of the states by their names. -/
def MapG (w : World) (b : Nat) : Prop := w.ownsMap Tryd.prog 9 (plainElem (H := Unit) Tryd.prog 22) b 7 dG

set_option maxHeartbeats 1000000 in
theorem ga_names (w : World) : Calls Tryd.prog 19 #[] w fun e w' => e = .returned (.map (some w.heap.size)) ∧ MapG w' w.heap.size ∧ Below w.heap.size w w' := by
  have hmm := @run_makeMap Tryd.prog
  have o0 := World.ownsMap_made w Tryd.prog 9 (plainElem (H := Unit) Tryd.prog 22)
  have g0 : Below w.heap.size w (w.alloc (.map #[] 0)) := (Below.refl _ _).alloc (Nat.le_refl _) _
  have z0 : w.heap.size ≤ (w.alloc (.map #[] 0)).heap.size := by simp
  have ob0 := Lib.hid (And.intro o0 (And.intro g0 z0))
  clear o0 g0 z0
  have hx : ∀ {w1 w2 : World} {n : Nat} {D D' : DataW Unit}, Hid (w1.ownsMap Tryd.prog 9 (plainElem (H := Unit) Tryd.prog 22) w.heap.size n D ∧ Below w.heap.size w w1 ∧ w.heap.size ≤ w1.heap.size) → w1.grownBy w2 (some w.heap.size) → w2.ownsMap Tryd.prog 9 (plainElem (H := Unit) Tryd.prog 22) w.heap.size (n + 1) D' → Hid (w2.ownsMap Tryd.prog 9 (plainElem (H := Unit) Tryd.prog 22) w.heap.size (n + 1) D' ∧ Below w.heap.size w w2 ∧ w.heap.size ≤ w2.heap.size) :=
    fun h g o => Lib.hid ⟨o, bel_gr h.out.2.1 g h.out.2.2 (Nat.le_refl _), Nat.le_trans h.out.2.2 g.size⟩
  obtain ⟨w1, r1, o1, g1⟩ := (ob0.out.1).update (t := 39) lawS Tryd.underlying39 (by unfold maxLen; omega) (keyN 0 (by omega) _ rfl) (plainElem_int (a := 0) Tryd.underlying22 (by decide))
  have ob1 := hx ob0 g1 o1
  obtain ⟨w2, r2, o2, g2⟩ := (ob1.out.1).update (t := 39) lawS Tryd.underlying39 (by unfold maxLen; omega) (keyN 1 (by omega) _ rfl) (plainElem_int (a := 1) Tryd.underlying22 (by decide))
  have ob2 := hx ob1 g2 o2
  obtain ⟨w3, r3, o3, g3⟩ := (ob2.out.1).update (t := 39) lawS Tryd.underlying39 (by unfold maxLen; omega) (keyN 2 (by omega) _ rfl) (plainElem_int (a := 2) Tryd.underlying22 (by decide))
  have ob3 := hx ob2 g3 o3
  obtain ⟨w4, r4, o4, g4⟩ := (ob3.out.1).update (t := 39) lawS Tryd.underlying39 (by unfold maxLen; omega) (keyN 3 (by omega) _ rfl) (plainElem_int (a := 3) Tryd.underlying22 (by decide))
  have ob4 := hx ob3 g4 o4
  obtain ⟨w5, r5, o5, g5⟩ := (ob4.out.1).update (t := 39) lawS Tryd.underlying39 (by unfold maxLen; omega) (keyN 4 (by omega) _ rfl) (plainElem_int (a := 4) Tryd.underlying22 (by decide))
  have ob5 := hx ob4 g5 o5
  obtain ⟨w6, r6, o6, g6⟩ := (ob5.out.1).update (t := 39) lawS Tryd.underlying39 (by unfold maxLen; omega) (keyN 5 (by omega) _ rfl) (plainElem_int (a := 5) Tryd.underlying22 (by decide))
  have ob6 := hx ob5 g6 o6
  obtain ⟨w7, r7, o7, g7⟩ := (ob6.out.1).update (t := 39) lawS Tryd.underlying39 (by unfold maxLen; omega) (keyN 6 (by omega) _ rfl) (plainElem_int (a := 6) Tryd.underlying22 (by decide))
  have ob7 := hx ob6 g7 o7
  have bE := ob7.out.2.1
  have oE : w7.ownsMap Tryd.prog 9 (plainElem (H := Unit) Tryd.prog 22) w.heap.size 7 dG := by rw [← dG_eq]; exact ob7.out.1
  have HE := Lib.hid (And.intro oE bE)
  clear oE bE ob0 ob1 ob2 ob3 ob4 ob5 ob6 ob7 o1 g1 o2 g2 o3 g3 o4 g4 o5 g5 o6 g6 o7 g7 hx
  simp only [nmB, nmG] at r1 r2 r3 r4 r5 r6 r7
  go_enter Tryd.func19, Tryd.ntmps19
  go_wp2
  go_ret
  exact ⟨rfl, HE.out⟩
end Go.Proofs.YtokigijneengkaaDoor
