/- Delete of one range of two, over this translation. -/
import Derived.Test.YtgjlbilbjgolpaaTe7
import Derived.Lib.SliceRun
set_option linter.unusedVariables false
namespace Go.Proofs.Ytgjlbilbjgolpaa
open Go.RowKit

theorem RR.two {w : World} {x y : Rn} {rg rc : Nat} (h : RR w (.slice (some ⟨rg, 0, none⟩) 2 rc) [x, y]) : ∃ cur, Blk w rg 31 cur ∧ 2 ≤ rc ∧ rc ≤ 9223372036854775807 ∧ cur.size = rc * 2 ∧ cur[0]? = some (.int .u64 (x.a : Int)) ∧ cur[1]? = some (.int .u64 (x.b : Int)) ∧ cur[2]? = some (.int .u64 (y.a : Int)) ∧ cur[3]? = some (.int .u64 (y.b : Int)) := by
  obtain ⟨_, cur, hb, h1, h2, h3, h4⟩ := h.inv
  have e : ∀ i v, i < 4 → (rcs [x, y])[i]? = some v → cur[i]? = some v := fun i v hi hv => by
    rw [← h4, List.getElem?_take_of_lt (by omega)] at hv
    simpa using hv
  exact ⟨cur, hb, h1, h2, h3, e 0 _ (by decide) rfl, e 1 _ (by decide) rfl, e 2 _ (by decide) rfl, e 3 _ (by decide) rfl⟩

theorem clear_one (rg o c : Nat) (w : World) (hc : ∀ j, j < 2 → (w.cell? ⟨rg, o + j, none⟩).isSome = true) (hf : ∀ j, j < 2 → w.frozen? ⟨rg, o + j, none⟩ = false) :
    Sem.run Try.prog (Builtin.clear_ #[22] 0 #[.slice (some ⟨rg, o, none⟩) 1 c]) w = .ok (.tuple #[]) (w.setCells rg o [.int .u64 0, .int .u64 0]) := by
  have hv : ∀ w, (zeroValue 31).run Try.prog w = .ok (.agg #[.int .u64 0, .int .u64 0]) w := Try.zeroValue31
  have hst := run_storeCells_cells (P := Try.prog) rg o [Value.int .u64 0, Value.int .u64 0] 0 w (by simpa using hc) (by simpa using hf) (by intro v hv'; simp at hv'; subst hv'; rfl)
  simp only [Nat.add_zero] at hst
  have hz : (Builtin.zeroCells (Value.agg #[.int .u64 0, .int .u64 0]).cells 1).toList = [Value.int .u64 0, Value.int .u64 0] := by kernel_rfl
  simp [Builtin.clear_, run_underlying Try.underlying22, hv, hz, hst]

set_option maxHeartbeats 2000000 in
theorem delete_two (rg rc : Nat) (x y : Rn) (w : World) (h : RR w (.slice (some ⟨rg, 0, none⟩) 2 rc) [x, y]) :
    Calls Try.prog 25 #[.slice (some ⟨rg, 0, none⟩) 2 rc, .int .i64 0, .int .i64 1] w fun e w' => e = .returned (.slice (some ⟨rg, 0, none⟩) 1 rc) ∧ RR w' (.slice (some ⟨rg, 0, none⟩) 1 rc) [y] ∧ Fr w w' [rg] := by
  obtain ⟨cur, hb, k1, k2, k3, c0, c1, c2, c3⟩ := h.two
  obtain ⟨i0, hi, hz0, hz1, hz2⟩ := info_parts rn_info
  have HB := Lib.hid hb
  have d2 := hb.drew.cell c2
  have d3 := hb.drew.cell c3
  have z1 : ¬ rc = 1 := by omega
  have HN : Hid (∀ j u, [Value.int .u64 (y.a : Int), Value.int .u64 (y.b : Int)][j]? = some u → w.drew.cell? ((⟨rg, 2, none⟩ : Addr).add j) = some u) := Lib.hid (fun j u hu => by
    match j, hu with
    | 0, hu => simp at hu; subst hu; simpa [Addr.add] using d2
    | 1, hu => simp at hu; subst hu; simpa [Addr.add] using d3)
  have HSp : Hid (∀ j, j < [Value.int .u64 (y.a : Int), Value.int .u64 (y.b : Int)].length → (w.drew.cell? ⟨rg, 0 + 0 * 2 + j, none⟩).isSome = true ∧ w.drew.frozen? ⟨rg, 0 + 0 * 2 + j, none⟩ = false) := Lib.hid (fun j hj => by
    have hj' : j < 2 := hj
    refine ⟨?_, hb.drew.free _⟩
    match j, hj' with
    | 0, _ => rw [show w.drew.cell? ⟨rg, 0 + 0 * 2 + 0, none⟩ = _ from hb.drew.cell c0]; rfl
    | 1, _ => rw [show w.drew.cell? ⟨rg, 0 + 0 * 2 + 1, none⟩ = _ from hb.drew.cell c1]; rfl)
  clear h hb c2 c3
  go_enter Try.func25, Try.ntmps25
  go_wp2
  go_region_law ((refine step_append_room (by rfl) _ _ _ (by rfl) 31 i0 2 Try.underlying22 hi hz1 rg 0 0 rc (by rfl) ⟨rg, 2, none⟩ 1 (rc - 1) [.int .u64 (y.a : Int), .int .u64 (y.b : Int)] (by rfl) rfl HN.out (by intro u hu; simp at hu; rcases hu with rfl | rfl <;> rfl) (by omega) HSp.out ?_))
  have F1 := Lib.hid (HB.out.drew.sets [.int .u64 (y.a : Int), .int .u64 (y.b : Int)] 0)
  have F2 := Lib.hid ((Fr.refl w [rg]).drawn (Drawn.drew w) |>.sets (c := rg) (.inl (by simp)) [.int .u64 (y.a : Int), .int .u64 (y.b : Int)] 0)
  have hsz : (putA cur 0 [.int .u64 (y.a : Int), .int .u64 (y.b : Int)]).size = cur.size := putA_size _ _ _
  have hclr := clear_one rg 2 (rc - 1) (w.drew.setCells rg 0 [.int .u64 (y.a : Int), .int .u64 (y.b : Int)]) (fun j hj => by
    have hx : (putA cur 0 [.int .u64 (y.a : Int), .int .u64 (y.b : Int)])[2 + j]? = some ((putA cur 0 [.int .u64 (y.a : Int), .int .u64 (y.b : Int)])[2 + j]'(by omega)) := Array.getElem?_eq_getElem _
    rw [F1.out.cell hx]; rfl) (fun j hj => F1.out.free _)
  have F3 := Lib.hid (F1.out.sets [.int .u64 0, .int .u64 0] 2)
  have F4 := Lib.hid (F2.out.sets (c := rg) (.inl (by simp)) [.int .u64 0, .int .u64 0] 2)
  clear d2 d3 hsz
  have HClr := Lib.hid hclr
  clear hclr
  go_wp2
  rw [HClr.out]
  go_wp2
  go_ret
  refine ⟨rfl, RR.mk rfl F3.out (by omega) (by unfold maxLen; omega) ?_ ?_, F4.out⟩
  · rw [putA_size, putA_size, k3]
  · have g : ∀ i v, i < 2 → [Value.int .u64 (y.a : Int), Value.int .u64 (y.b : Int)][i]? = some v → (putA (putA cur 0 [.int .u64 (y.a : Int), .int .u64 (y.b : Int)]) 2 [.int .u64 0, .int .u64 0])[i]? = some v := fun i v hi hv => by
      rw [putA_get _ _ _ _ (by rw [putA_size]; simp; omega), if_neg (by omega), putA_get _ _ _ _ (by simp; omega), if_pos (by simp; omega)]
      simpa using hv
    apply List.ext_getElem?
    intro t
    by_cases ht : t < 2
    · rw [List.getElem?_take_of_lt (by omega), Array.getElem?_toList]
      match t, ht with
      | 0, _ => exact g 0 _ (by decide) rfl
      | 1, _ => exact g 1 _ (by decide) rfl
    · rw [List.getElem?_eq_none (by simp; omega), List.getElem?_eq_none (by show 2 ≤ t; omega)]
end Go.Proofs.Ytgjlbilbjgolpaa
