/- Slices of numbers in memory, read as lists; the greatest of a list (no function of the program here). -/
import Derived.Test.YtkinoblikilagaaSw
import Derived.Test.YtkinoblikilagaaProg
import Derived.BigQuiet
import Derived.StillTailTactics
import Derived.Deep.RegionHeld3
import Derived.Deep.LoopGhost
import Derived.Laws.AppendOwnNone
import Derived.Maps.AppendAt
import Derived.Deep.AppendLies
set_option linter.unusedVariables false
namespace Go.Proofs.Ytkinoblikilagaa
open Go.RowKit

def ncell (n : Nat) : Value := .int .u64 (n : Int)
def pcells (l : List Nat) : Array Value := (l.map ncell).toArray
theorem pcells_at {l : List Nat} {i : Nat} (h : i < l.length) : (pcells l)[i]? = some (.int .u64 ((l.getD i 0 : Nat) : Int)) := by
  simp [pcells, ncell, List.getD_eq_getElem?_getD, h]

/-- A slice of numbers: where it begins, and what it reads as. -/
def Nums (w : World) (v : Option Addr) (l : List Nat) : Prop :=
  0 < l.length → ∃ b off, v = some ⟨b, off, none⟩ ∧ b < w.heap.size ∧ ∀ i, i < l.length → w.cell? ⟨b, off + i, none⟩ = some (ncell (l.getD i 0))

theorem Nums.keep {w w' : World} {v : Option Addr} {l : List Nat} (h : Nums w v l) (k : Below w.heap.size w w') : Nums w' v l := by
  intro hp
  obtain ⟨b, off, e, hb, hc⟩ := h hp
  exact ⟨b, off, e, Nat.lt_of_lt_of_le hb k.size, fun i hi => (k.cell (p := ⟨b, off + i, none⟩) hb).trans (hc i hi)⟩
theorem Nums.below {B : Nat} {w w' : World} {v : Option Addr} {l : List Nat} (h : Nums w v l) (k : Below B w w') (hB : ∀ a, v = some a → a.block < B) : Nums w' v l := by
  intro hp
  obtain ⟨b, off, e, hb, hc⟩ := h hp
  have hlt : b < B := hB _ e
  exact ⟨b, off, e, Nat.lt_of_lt_of_le hb k.size, fun i hi => (k.cell (p := ⟨b, off + i, none⟩) hlt).trans (hc i hi)⟩
protected theorem Nums.none (w : World) (v : Option Addr) : Nums w v [] := fun h => absurd h (by simp)
theorem Nums.of_blk {w : World} {g : Nat} {T : TypeId} {l : List Nat} (h : Blk w g T (pcells l)) : Nums w (some ⟨g, 0, none⟩) l := by
  intro _
  refine ⟨g, 0, rfl, h.lt, fun i hi => h.cell ?_⟩
  rw [Nat.zero_add]; exact pcells_at hi
theorem map_at {l : List Nat} {j : Nat} {u : Value} (h : (l.map ncell)[j]? = some u) : j < l.length ∧ u = ncell (l.getD j 0) := by
  have hj : j < l.length := by
    rcases Nat.lt_or_ge j l.length with c | c
    · exact c
    · rw [List.getElem?_eq_none (by simpa using c)] at h; cases h
  refine ⟨hj, ?_⟩
  simp [hj] at h
  simp [List.getD_eq_getElem?_getD, hj, h]
theorem Nums.cells {w : World} {v : Option Addr} {l : List Nat} (h : Nums w v l) (hp : 0 < (l.map ncell).length) : ∃ ad, v = some ad ∧ ∀ j u, (l.map ncell)[j]? = some u → w.cell? (ad.add j) = some u := by
  obtain ⟨b, off, rfl, _, hc⟩ := h (by simpa using hp)
  refine ⟨_, rfl, fun j u hu => ?_⟩
  obtain ⟨hj, rfl⟩ := map_at hu
  rw [Go.WideShapes.add_plain]
  exact hc j hj
theorem one_nums (l : List Nat) : ∀ v ∈ l.map ncell, v.oneCell' = true := by
  intro v hv
  obtain ⟨n, _, rfl⟩ := List.mem_map.1 hv
  rfl

/-- The greatest of x, and of a list. -/
def mxs (x : Nat) (l : List Nat) : Nat := l.foldl max x
theorem mxs_nil (x : Nat) : mxs x [] = x := rfl
theorem mxs_app (x : Nat) (l r : List Nat) : mxs x (l ++ r) = mxs (mxs x l) r := by simp [mxs]
theorem mxs_ge (x : Nat) (l : List Nat) : x ≤ mxs x l := by
  induction l generalizing x with
  | nil => exact Nat.le_refl _
  | cons a r ih => have := ih (max x a); simp only [mxs, List.foldl_cons] at *; omega
theorem mxs_max (x y : Nat) (l : List Nat) : mxs (max x y) l = max x (mxs y l) := by
  induction l generalizing x y with
  | nil => rfl
  | cons a r ih => simp only [mxs, List.foldl_cons] at *; rw [Nat.max_assoc, ih]
theorem mxs_eq (x : Nat) (l : List Nat) : mxs x l = max x (mxs 0 l) := by
  have := mxs_max x 0 l; rwa [Nat.max_eq_left (Nat.zero_le _)] at this
theorem mxs_take (x : Nat) {l : List Nat} {k : Nat} (h : k < l.length) : mxs x (l.take (k + 1)) = max (mxs x (l.take k)) (l.getD k 0) := by
  rw [List.take_succ_eq_append_getElem h, mxs_app]
  simp [mxs, List.getD_eq_getElem?_getD, h]
theorem mxs_rev (x : Nat) (l : List Nat) : mxs x l.reverse = mxs x l := by
  induction l generalizing x with
  | nil => rfl
  | cons a r ih =>
    rw [List.reverse_cons, mxs_app, ih]
    simp only [mxs, List.foldl_cons, List.foldl_nil]
    have e1 := mxs_max a x r
    have e2 : max x a = max a x := Nat.max_comm _ _
    simp only [mxs] at e1
    rw [e2, e1, Nat.max_comm]
theorem mxs_lt {x B : Nat} {l : List Nat} (hx : x ≤ B) (h : ∀ a ∈ l, a ≤ B) : mxs x l ≤ B := by
  induction l generalizing x with
  | nil => exact hx
  | cons a r ih =>
    have h1 : a ≤ B := h a (by simp)
    simp only [mxs, List.foldl_cons] at *
    exact ih (by omega) (fun y hy => h y (by simp [hy]))

/-- What the builtin max answers. -/
theorem max_if (x y : Nat) : (if (x : Int) < (y : Int) then (y : Int) else (x : Int)) = ((max x y : Nat) : Int) := by
  split <;> omega
end Go.Proofs.Ytkinoblikilagaa
