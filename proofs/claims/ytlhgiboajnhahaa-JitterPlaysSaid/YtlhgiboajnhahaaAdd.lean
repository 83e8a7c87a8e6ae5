/- Contracts of fix.Add over this translation: sums that stop at 2^64 - 1. -/
import Derived.Test.YtlhgiboajnhahaaRowz
import Derived.WalkKit
import Derived.WalkLawsBesides
import Derived.Shelf.Spec.BitsCarry
import Derived.Lib.Hide
import Derived.Outline
set_option linter.unusedVariables false
namespace Go.Proofs.Ytlhgiboajnhahaa
open Go.RowKit Pl

theorem add64_run (x y : Int) (hx : 0 ≤ x) (hy : 0 ≤ y) (w : World) :
    (callFunc 27 #[.int .u64 x, .int .u64 y, .int .u64 0]).run Try.prog w =
      .ok (.value (.tuple #[.int .u64 ((x + y + 0) % 18446744073709551616), .int .u64 ((x + y + 0) / 18446744073709551616)])) w := by
  rw [run_callFunc_extern Try.func27 (by kernel_rfl) (by kernel_rfl) (by kernel_rfl) (e := add64Entry) (by kernel_rfl), run_add64 x y 0 hx hy (by omega) (by omega)]
  rfl

theorem add64_no (x y : Int) (hx : 0 ≤ x) (hy : 0 ≤ y) (h : x + y ≤ 18446744073709551615) (w : World) :
    (callFunc 27 #[.int .u64 x, .int .u64 y, .int .u64 0]).run Try.prog w = .ok (.value (.tuple #[.int .u64 (x + y), .int .u64 0])) w := by
  rw [add64_run x y hx hy, show (x + y + 0) % 18446744073709551616 = x + y by omega, show (x + y + 0) / 18446744073709551616 = 0 by omega]

theorem add64_yes (x y : Int) (hx : 0 ≤ x) (hy : 0 ≤ y) (hx' : x ≤ 18446744073709551615) (hy' : y ≤ 18446744073709551615) (h : 18446744073709551615 < x + y) (w : World) :
    (callFunc 27 #[.int .u64 x, .int .u64 y, .int .u64 0]).run Try.prog w = .ok (.value (.tuple #[.int .u64 ((x + y + 0) % 18446744073709551616), .int .u64 1])) w := by
  rw [add64_run x y hx hy, show (x + y + 0) / 18446744073709551616 = 1 by omega]

set_option maxHeartbeats 400000 in
theorem fix_Add (b off cap : Nat) (zs : List Nat) (w : World) (hl : zs.length ≤ 9223372036854775807) (hz : ∀ z ∈ zs, z ≤ 18446744073709551615) (hrow : Row w b off zs) :
    Calls Try.prog 19 #[.slice (some ⟨b, off, none⟩) zs.length cap] w fun e w' => e = .returned (.int .u64 ((sumS zs : Nat) : Int)) ∧ w = w' := by
  have HZ := Lib.hid hz
  have HR := Lib.hid hrow
  clear hz hrow
  go_enter Try.func19, Try.ntmps19
  go_wp2
  go_loop [3, 10] (fun s i => ∃ k : Nat, k ≤ zs.length ∧ i = .int .i64 k ∧ (zs.take k).sum ≤ 18446744073709551615 ∧ s = .int .u64 ((zs.take k).sum : Nat)) (fun _ i => zs.length - (intOf i).toNat)
  case atStart => exact ⟨0, Nat.zero_le _, rfl, by simp, by simp⟩
  case round =>
    obtain ⟨k, hk, rfl, hs, rfl⟩ := hrel
    by_cases hlt : k < zs.length
    · have hcell := HR.out k hlt
      have hbd := Row.bd HZ.out k
      have HS := Lib.hid (take_succ_sum zs k hlt)
      have HL := Lib.hid (take_sum_le zs (k + 1))
      generalize zs.getD k 0 = z at *
      generalize (zs.take k).sum = t at *
      by_cases hc : t + z ≤ 18446744073709551615
      · have hrun := add64_no (t : Int) (z : Int) (by omega) (by omega) (by omega)
        go_wp2
        go_round
        case rel => exact ⟨k + 1, by omega, by go_num, by rw [HS.out]; exact hc, by rw [HS.out]; simp⟩
        case measure => simp [intOf]; omega
      · have hrun := add64_yes (t : Int) (z : Int) (by omega) (by omega) (by omega) (by omega) (by omega)
        go_wp2
        go_ret
        refine ⟨?_, rfl⟩
        have e : sumS zs = 18446744073709551615 := by have a := HS.out; have b := HL.out; unfold sumS; omega
        rw [e]; rfl
    · go_wp2
      go_ret
      refine ⟨?_, rfl⟩
      have e : (zs.take k).sum = sumS zs := by rw [List.take_of_length_le (by omega)] at hs ⊢; unfold sumS; omega
      rw [e]
      rfl

/-- No numbers: a nil row. -/
theorem fix_Add_nil (v : Option Addr) (cap : Nat) (w : World) :
    Calls Try.prog 19 #[.slice v 0 cap] w fun e w' => e = .returned (.int .u64 0) ∧ w = w' := by
  go_enter Try.func19, Try.ntmps19
  go_wp2
  go_loop [3, 10] (fun s i => i = .int .i64 0 ∧ s = .int .u64 0) (fun _ i => 0)
  case atStart => exact ⟨rfl, rfl⟩
  case round =>
    obtain ⟨rfl, rfl⟩ := hrel
    go_wp2
    go_ret
    exact ⟨rfl, rfl⟩


theorem new_cell {W : World} {c : Array Value} {t : TypeId} {b i : Nat} {v : Value} (hb : b = W.heap.size) (h : c[i]? = some v) : (W.alloc (.cells c t)).cell? ⟨b, i, none⟩ = some v := by
  subst hb; simp [World.cell?_alloc_new, h]

/-- 'fix.Add(x)', 'fix.Add(x, y)', 'fix.Add(x, y, z)': the numbers lie in a new block of their own. -/
theorem fix_Add1 (W : World) (b cap : Nat) (x : Int) (hb : b = W.heap.size) (hx0 : 0 ≤ x) (hx : x ≤ 18446744073709551615) :
    Calls Try.prog 19 #[.slice (some ⟨b, 0, none⟩) 1 cap] (W.alloc (.cells #[.int .u64 x] 22)) fun e w' => e = .returned (.int .u64 ((sumS [x.toNat] : Nat) : Int)) ∧ W.alloc (.cells #[.int .u64 x] 22) = w' := by
  obtain ⟨x, rfl⟩ := Int.eq_ofNat_of_zero_le hx0
  simp only [Int.toNat_natCast]
  refine fix_Add b 0 cap [x] _ (by simp) (by simp; omega) ?_
  intro i hi
  match i, hi with
  | 0, _ => exact new_cell hb (by simp)

theorem fix_Add2 (W : World) (b cap : Nat) (x y : Int) (hb : b = W.heap.size) (hx0 : 0 ≤ x) (hx : x ≤ 18446744073709551615) (hy0 : 0 ≤ y) (hy : y ≤ 18446744073709551615) :
    Calls Try.prog 19 #[.slice (some ⟨b, 0, none⟩) 2 cap] (W.alloc (.cells #[.int .u64 x, .int .u64 y] 22)) fun e w' => e = .returned (.int .u64 ((addS x.toNat y.toNat : Nat) : Int)) ∧ W.alloc (.cells #[.int .u64 x, .int .u64 y] 22) = w' := by
  obtain ⟨x, rfl⟩ := Int.eq_ofNat_of_zero_le hx0
  obtain ⟨y, rfl⟩ := Int.eq_ofNat_of_zero_le hy0
  simp only [Int.toNat_natCast]
  rw [← sumS_two]
  refine fix_Add b 0 cap [x, y] _ (by simp) (by simp; omega) ?_
  intro i hi
  match i, hi with
  | 0, _ => exact new_cell hb (by simp)
  | 1, _ => exact new_cell hb (by simp)

theorem fix_Add3 (W : World) (b cap : Nat) (x y z : Int) (hb : b = W.heap.size) (hx0 : 0 ≤ x) (hx : x ≤ 18446744073709551615) (hy0 : 0 ≤ y) (hy : y ≤ 18446744073709551615) (hz0 : 0 ≤ z) (hz : z ≤ 18446744073709551615) :
    Calls Try.prog 19 #[.slice (some ⟨b, 0, none⟩) 3 cap] (W.alloc (.cells #[.int .u64 x, .int .u64 y, .int .u64 z] 22)) fun e w' => e = .returned (.int .u64 ((sumS [x.toNat, y.toNat, z.toNat] : Nat) : Int)) ∧ W.alloc (.cells #[.int .u64 x, .int .u64 y, .int .u64 z] 22) = w' := by
  obtain ⟨x, rfl⟩ := Int.eq_ofNat_of_zero_le hx0
  obtain ⟨y, rfl⟩ := Int.eq_ofNat_of_zero_le hy0
  obtain ⟨z, rfl⟩ := Int.eq_ofNat_of_zero_le hz0
  simp only [Int.toNat_natCast]
  refine fix_Add b 0 cap [x, y, z] _ (by simp) (by simp; omega) ?_
  intro i hi
  match i, hi with
  | 0, _ => exact new_cell hb (by simp)
  | 1, _ => exact new_cell hb (by simp)
  | 2, _ => exact new_cell hb (by simp)

theorem fix_Add2_n (W : World) (b cap x y : Nat) (hb : b = W.heap.size) (hx : x ≤ 18446744073709551615) (hy : y ≤ 18446744073709551615) :
    Calls Try.prog 19 #[.slice (some ⟨b, 0, none⟩) 2 cap] (W.alloc (.cells #[.int .u64 (x : Int), .int .u64 (y : Int)] 22)) fun e w' => e = .returned (.int .u64 ((addS x y : Nat) : Int)) ∧ W.alloc (.cells #[.int .u64 (x : Int), .int .u64 (y : Int)] 22) = w' := by
  have h := fix_Add2 W b cap (x : Int) (y : Int) hb (by omega) (by omega) (by omega) (by omega)
  simpa only [Int.toNat_natCast] using h

theorem bnext {w a b : World} (h : Below w.heap.size w a) (k : Below a.heap.size a b) : Below w.heap.size w b := h.trans (k.mono h.size)

theorem add2_b (W : World) (b cap x y : Nat) (hb : b = W.heap.size) (hx : x ≤ 18446744073709551615) (hy : y ≤ 18446744073709551615) :
    Calls Try.prog 19 #[.slice (some ⟨b, 0, none⟩) 2 cap] (W.alloc (.cells #[.int .u64 (x : Int), .int .u64 (y : Int)] 22)) fun e w' => e = .returned (.int .u64 ((addS x y : Nat) : Int)) ∧ Below W.heap.size W w' :=
  (fix_Add2_n W b cap x y hb hx hy).mono fun _ _ h => ⟨h.1, h.2 ▸ (Below.refl _ _).alloc (Nat.le_refl _) _⟩

theorem add3_b (W : World) (b cap x y z : Nat) (hb : b = W.heap.size) (hx : x ≤ 18446744073709551615) (hy : y ≤ 18446744073709551615) (hz : z ≤ 18446744073709551615) :
    Calls Try.prog 19 #[.slice (some ⟨b, 0, none⟩) 3 cap] (W.alloc (.cells #[.int .u64 (x : Int), .int .u64 (y : Int), .int .u64 (z : Int)] 22)) fun e w' => e = .returned (.int .u64 ((sumS [x, y, z] : Nat) : Int)) ∧ Below W.heap.size W w' := by
  have h := fix_Add3 W b cap (x : Int) (y : Int) (z : Int) hb (by omega) (by omega) (by omega) (by omega) (by omega) (by omega)
  simp only [Int.toNat_natCast] at h
  exact h.mono fun _ _ h => ⟨h.1, h.2 ▸ (Below.refl _ _).alloc (Nat.le_refl _) _⟩

end Go.Proofs.Ytlhgiboajnhahaa
