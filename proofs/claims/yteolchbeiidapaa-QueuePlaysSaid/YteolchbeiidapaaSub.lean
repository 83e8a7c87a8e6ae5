/- Contracts of fix.Sub over this translation: differences that stop at 0. -/
import Derived.Test.YteolchbeiidapaaAdd
set_option linter.unusedVariables false
namespace Go.Proofs.Yteolchbeiidapaa
open Go.RowKit Pl

theorem sub64_no (x y : Nat) (h : y ≤ x) (hx : x ≤ 18446744073709551615) (w : World) :
    (callFunc 26 #[.int .u64 x, .int .u64 y, .int .u64 0]).run Try.prog w = .ok (.value (.tuple #[.int .u64 ((x - y : Nat) : Int), .int .u64 0])) w := by
  have h0 := run_sub64 (P := Try.prog) x y 0 (by omega) w
  rw [run_callFunc_extern Try.func26 (by kernel_rfl) (by kernel_rfl) (by kernel_rfl) (e := sub64Entry) (by kernel_rfl)]
  rw [show (x + 18446744073709551616 - y - 0) % 18446744073709551616 = x - y by omega, if_neg (by omega)] at h0
  exact (congrArg (fun r => Result.andThen r fun v w' => .ok (Next.value v) w') h0)

theorem sub64_yes (x y : Nat) (h : x < y) (hx : x ≤ 18446744073709551615) (w : World) :
    (callFunc 26 #[.int .u64 x, .int .u64 y, .int .u64 0]).run Try.prog w = .ok (.value (.tuple #[.int .u64 (((x + 18446744073709551616 - y - 0) % 18446744073709551616 : Nat) : Int), .int .u64 1])) w := by
  have h0 := run_sub64 (P := Try.prog) x y 0 (by omega) w
  rw [run_callFunc_extern Try.func26 (by kernel_rfl) (by kernel_rfl) (by kernel_rfl) (e := sub64Entry) (by kernel_rfl)]
  rw [if_pos (by omega)] at h0
  exact (congrArg (fun r => Result.andThen r fun v w' => .ok (Next.value v) w') h0)

theorem lessS_le_row (a : Nat) (zs : List Nat) (h : a ≤ 18446744073709551615) (hs : sumS zs ≤ a) : a - sumS zs = lessS a zs := by
  unfold sumS at hs ⊢; unfold lessS; omega
theorem lessS_zero (a : Nat) (zs : List Nat) (h : a ≤ 18446744073709551615) (hs : a < sumS zs) : lessS a zs = 0 := by
  unfold sumS at hs; unfold lessS; omega

theorem fix_Sub (a : Int) (b off cap : Nat) (zs : List Nat) (w : World) (ha0 : 0 ≤ a) (ha : a ≤ 18446744073709551615) (hl : zs.length ≤ 9223372036854775807) (hz : ∀ z ∈ zs, z ≤ 18446744073709551615) (hrow : Row w b off zs) :
    Calls Try.prog 19 #[.int .u64 a, .slice (some ⟨b, off, none⟩) zs.length cap] w fun e w' => e = .returned (.int .u64 ((lessS a.toNat zs : Nat) : Int)) ∧ w = w' := by
  obtain ⟨n, rfl⟩ := Int.eq_ofNat_of_zero_le ha0
  rw [Int.toNat_natCast]
  have hn : n ≤ 18446744073709551615 := by omega
  have HA := Lib.hid (fix_Add b off cap zs w hl hz hrow)
  clear hz hrow hl ha0 ha
  by_cases h : sumS zs ≤ n
  · have HE := Lib.hid (lessS_le_row n zs hn h)
    have hrun := sub64_no n (sumS zs) h hn
    go_enter Try.func19, Try.ntmps19
    go_wp2_with (go_at_call 27; refine (HA.out).mono ?_; rintro e w' ⟨rfl, rfl⟩)
    go_ret
    exact ⟨ret_u64 (by rw [HE.out]), rfl⟩
  · have HE := Lib.hid (lessS_zero n zs hn (by omega))
    have hrun := sub64_yes n (sumS zs) (by omega) hn
    go_enter Try.func19, Try.ntmps19
    go_wp2_with (go_at_call 27; refine (HA.out).mono ?_; rintro e w' ⟨rfl, rfl⟩)
    go_ret
    exact ⟨ret_u64 (by rw [HE.out]; rfl), rfl⟩

theorem fix_Sub1 (W : World) (b cap : Nat) (a x : Int) (hb : b = W.heap.size) (ha0 : 0 ≤ a) (ha : a ≤ 18446744073709551615) (hx0 : 0 ≤ x) (hx : x ≤ 18446744073709551615) :
    Calls Try.prog 19 #[.int .u64 a, .slice (some ⟨b, 0, none⟩) 1 cap] (W.alloc (.cells #[.int .u64 x] 22)) fun e w' => e = .returned (.int .u64 ((subS a.toNat x.toNat : Nat) : Int)) ∧ W.alloc (.cells #[.int .u64 x] 22) = w' := by
  obtain ⟨x, rfl⟩ := Int.eq_ofNat_of_zero_le hx0
  simp only [Int.toNat_natCast]
  rw [show subS a.toNat x = lessS a.toNat [x] by simp [lessS, subS]]
  refine fix_Sub a b 0 cap [x] _ ha0 ha (by simp) (by simp; omega) ?_
  intro i hi
  match i, hi with
  | 0, _ => exact new_cell hb (by simp)

theorem fix_Sub2 (W : World) (b cap : Nat) (a x y : Int) (hb : b = W.heap.size) (ha0 : 0 ≤ a) (ha : a ≤ 18446744073709551615) (hx0 : 0 ≤ x) (hx : x ≤ 18446744073709551615) (hy0 : 0 ≤ y) (hy : y ≤ 18446744073709551615) :
    Calls Try.prog 19 #[.int .u64 a, .slice (some ⟨b, 0, none⟩) 2 cap] (W.alloc (.cells #[.int .u64 x, .int .u64 y] 22)) fun e w' => e = .returned (.int .u64 ((subS a.toNat (x.toNat + y.toNat) : Nat) : Int)) ∧ W.alloc (.cells #[.int .u64 x, .int .u64 y] 22) = w' := by
  obtain ⟨x, rfl⟩ := Int.eq_ofNat_of_zero_le hx0
  obtain ⟨y, rfl⟩ := Int.eq_ofNat_of_zero_le hy0
  simp only [Int.toNat_natCast]
  rw [show subS a.toNat (x + y) = lessS a.toNat [x, y] by simp [lessS, subS]]
  refine fix_Sub a b 0 cap [x, y] _ ha0 ha (by simp) (by simp; omega) ?_
  intro i hi
  match i, hi with
  | 0, _ => exact new_cell hb (by simp)
  | 1, _ => exact new_cell hb (by simp)

theorem fix_Sub1_n (W : World) (b cap a x : Nat) (hb : b = W.heap.size) (ha : a ≤ 18446744073709551615) (hx : x ≤ 18446744073709551615) :
    Calls Try.prog 19 #[.int .u64 (a : Int), .slice (some ⟨b, 0, none⟩) 1 cap] (W.alloc (.cells #[.int .u64 (x : Int)] 22)) fun e w' => e = .returned (.int .u64 ((subS a x : Nat) : Int)) ∧ W.alloc (.cells #[.int .u64 (x : Int)] 22) = w' := by
  have h := fix_Sub1 W b cap (a : Int) (x : Int) hb (by omega) (by omega) (by omega) (by omega)
  simpa only [Int.toNat_natCast] using h

theorem sub1_b (W : World) (b cap a x : Nat) (hb : b = W.heap.size) (ha : a ≤ 18446744073709551615) (hx : x ≤ 18446744073709551615) :
    Calls Try.prog 19 #[.int .u64 (a : Int), .slice (some ⟨b, 0, none⟩) 1 cap] (W.alloc (.cells #[.int .u64 (x : Int)] 22)) fun e w' => e = .returned (.int .u64 ((subS a x : Nat) : Int)) ∧ Below W.heap.size W w' :=
  (fix_Sub1_n W b cap a x hb ha hx).mono fun _ _ h => ⟨h.1, h.2 ▸ (Below.refl _ _).alloc (Nat.le_refl _) _⟩

end Go.Proofs.Yteolchbeiidapaa
