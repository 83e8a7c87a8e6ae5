/- Small facts: numbers at hand for fix.Add, wherever they lie. -/
import Derived.Test.YtlhgiboajnhahaaAdd
import Derived.Test.YtlhgiboajnhahaaBlk
set_option linter.unusedVariables false
namespace Go.Proofs.Ytlhgiboajnhahaa
open Go.RowKit

theorem cell_dr {w : World} {p : Addr} {v : Value} (h : w.cell? p = some v) : w.drew.cell? p = some v := h
theorem al_dr (w : World) (o : Obj) : Below w.heap.size w (w.alloc o).drew := ((Below.refl _ _).alloc (Nat.le_refl _) o).trans ((Drawn.drew _).below _)
theorem bel_cell {V w : World} {p : Addr} {v : Value} (hb : Below V.heap.size V w) (h : V.cell? p = some v) : w.cell? p = some v := (hb.cell (World.block_lt_of_cell? V p h)).trans h
theorem nc1 (W : World) (x : Nat) (T : TypeId) : (W.alloc (.cells #[.int .u64 (x : Int)] T)).drew.cell? ⟨W.heap.size, 0, none⟩ = some (.int .u64 (x : Int)) := cell_dr (new_cell rfl rfl)
theorem nc1' (W : World) (x : Nat) (T : TypeId) : (W.alloc (.cells #[.int .u64 (x : Int)] T)).cell? ⟨W.heap.size, 0, none⟩ = some (.int .u64 (x : Int)) := new_cell rfl rfl
theorem al_be (w : World) (o : Obj) : Below w.heap.size w (w.alloc o) := (Below.refl _ _).alloc (Nat.le_refl _) o
theorem row2 {W : World} {b x y : Nat} (h0 : W.cell? ⟨b, 0, none⟩ = some (.int .u64 (x : Int))) (h1 : W.cell? ⟨b, 1, none⟩ = some (.int .u64 (y : Int))) : Row W b 0 [x, y] := by
  intro i hi
  match i, hi with
  | 0, _ => exact h0
  | 1, _ => exact h1
/-- fix.Add of two numbers, wherever they lie. -/
theorem add_any (x y : Nat) (hx : x ≤ 18446744073709551615) (hy : y ≤ 18446744073709551615) (b : Nat) (W : World) (h0 : W.cell? ⟨b, 0, none⟩ = some (.int .u64 (x : Int))) (h1 : W.cell? ⟨b, 1, none⟩ = some (.int .u64 (y : Int))) :
    Calls Try.prog 19 #[.slice (some ⟨b, 0, none⟩) 2 2] W fun e w' => e = .returned (.int .u64 ((Pl.addS x y : Nat) : Int)) ∧ Below W.heap.size W w' := by
  have := fix_Add b 0 2 [x, y] W (by simp) (by simp; omega) (row2 h0 h1)
  have e : Pl.sumS [x, y] = Pl.addS x y := by simp [Pl.sumS, Pl.addS]
  rw [e] at this
  exact this.mono fun e w' q => ⟨q.1, q.2 ▸ Below.refl _ _⟩
theorem nc2 (W : World) (x y : Nat) (T : TypeId) : (W.alloc (.cells #[.int .u64 (x : Int), .int .u64 (y : Int)] T)).cell? ⟨W.heap.size, 0, none⟩ = some (.int .u64 (x : Int)) ∧ (W.alloc (.cells #[.int .u64 (x : Int), .int .u64 (y : Int)] T)).cell? ⟨W.heap.size, 1, none⟩ = some (.int .u64 (y : Int)) := ⟨new_cell rfl rfl, new_cell rfl rfl⟩
end Go.Proofs.Ytlhgiboajnhahaa
