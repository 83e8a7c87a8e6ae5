/- Contracts of fix.Share and fix.Over over this translation: a times b, by c, rounded down, and up, stopping at 2^64 - 1. -/
import Derived.Test.YtjaiffmdoodfaaaDiv
set_option linter.unusedVariables false
namespace Go.Proofs.Ytjaiffmdoodfaaa
open Go.RowKit Pl

def restS (a b c : Nat) : Nat := if c ≤ a * b / 18446744073709551616 then 0 else a * b % c

theorem share_top (a b c : Nat) (h : c ≤ a * b / 18446744073709551616) : shareS a b c = 18446744073709551615 := by
  unfold shareS
  split
  · rfl
  · have : 18446744073709551615 ≤ a * b / c := by
      rw [Nat.le_div_iff_mul_le (by omega)]
      generalize a * b = p at *
      omega
    omega

theorem share_in (a b c : Nat) (h : a * b / 18446744073709551616 < c) : shareS a b c = a * b / c := by
  unfold shareS
  have : a * b / c ≤ 18446744073709551615 := by
    have : a * b / c < 18446744073709551616 := by
      rw [Nat.div_lt_iff_lt_mul (by omega)]
      generalize a * b = p at *
      omega
    omega
  split <;> omega

theorem over_eq (a b c : Nat) : overS a b c = if restS a b c = 0 then shareS a b c else addS (shareS a b c) 1 := by
  by_cases h : c ≤ a * b / 18446744073709551616
  · rw [share_top a b c h, show restS a b c = 0 by unfold restS; rw [if_pos h], if_pos rfl]
    unfold overS
    split
    · rfl
    · have : 18446744073709551615 ≤ (a * b + (c - 1)) / c := by
        rw [Nat.le_div_iff_mul_le (by omega)]
        generalize a * b = p at *
        omega
      omega
  · rw [share_in a b c (by omega), show restS a b c = a * b % c by unfold restS; rw [if_neg h]]
    have hc : 0 < c := by omega
    unfold overS addS
    rw [if_neg (by omega)]
    have e := Nat.div_add_mod (a * b) c
    have l := Nat.mod_lt (a * b) hc
    have hb : a * b / c < 18446744073709551616 := by
      rw [Nat.div_lt_iff_lt_mul hc]
      generalize a * b = p at *
      omega
    generalize a * b = p at *
    generalize p / c = q at *
    generalize p % c = r at *
    split
    · next h0 =>
      subst h0
      have : (p + (c - 1)) / c = q := by
        rw [← e, Nat.add_zero, Nat.mul_add_div hc, Nat.div_eq_of_lt (by omega), Nat.add_zero]
      omega
    · next h0 =>
      have : (p + (c - 1)) / c = q + 1 := by
        rw [← e, Nat.add_assoc, Nat.mul_add_div hc, show r + (c - 1) = c * 1 + (r - 1) by omega, Nat.mul_add_div hc, Nat.div_eq_of_lt (by omega), Nat.add_zero]
      omega

set_option maxHeartbeats 400000 in
theorem fix_divide (x y z : Nat) (w : World) (hx : x ≤ 18446744073709551615) (hy : y ≤ 18446744073709551615) (hz : z ≤ 18446744073709551615) :
    Calls Try.prog 25 #[.int .u64 (x : Int), .int .u64 (y : Int), .int .u64 (z : Int)] w fun e w' => e = .returned (.tuple #[.int .u64 ((shareS x y z : Nat) : Int), .int .u64 ((restS x y z : Nat) : Int)]) ∧ Drawn w w' := by
  have HM := Lib.hid (Try.bits_Mul64 x y (by omega) (by omega) w)
  have hlo : x * y % 18446744073709551616 ≤ 18446744073709551615 := by omega
  have HP : Hid (x * y / 18446744073709551616 * 18446744073709551616 + x * y % 18446744073709551616 = x * y) := Lib.hid (by omega)
  by_cases h : z ≤ x * y / 18446744073709551616
  · have HS := Lib.hid (share_top x y z h)
    have HR : Hid (restS x y z = 0) := Lib.hid (by unfold restS; rw [if_pos h])
    generalize x * y / 18446744073709551616 = hi at *
    generalize x * y % 18446744073709551616 = lo at *
    go_enter Try.func25, Try.ntmps25
    go_wp2_with (go_at_call 23; refine (HM.out).mono ?_; rintro e w' ⟨rfl, hw⟩; rw [hw])
    go_ret2
    exact ⟨ret2_u64 (by rw [HS.out]; rfl) (by rw [HR.out]; rfl), Drawn.refl _⟩
  · have HS := Lib.hid (share_in x y z (by omega))
    have HR : Hid (restS x y z = x * y % z) := Lib.hid (by unfold restS; rw [if_neg h])
    have hhi : x * y / 18446744073709551616 ≤ 18446744073709551615 := by omega
    generalize x * y / 18446744073709551616 = hi at *
    generalize x * y % 18446744073709551616 = lo at *
    have hd := div64 hi lo z w (by omega) hlo hz
    rw [HP.out, ← HS.out, ← HR.out] at hd
    have HD := Lib.hid hd
    clear hd HS HR
    generalize shareS x y z = q at *
    generalize restS x y z = r at *
    go_enter Try.func25, Try.ntmps25
    go_wp2_with (first | (go_at_call 23; refine (HM.out).mono ?_; rintro e w' ⟨rfl, hw⟩; rw [hw]) | (go_at_call 27; refine (HD.out).mono ?_; rintro e w'' ⟨rfl, n, rfl⟩))
    go_ret2
    exact ⟨rfl, n, rfl⟩

theorem Drawn.below {w w' : World} (h : Drawn w w') : Below w.heap.size w w' := by
  obtain ⟨n, rfl⟩ := h
  exact below_drewN (Below.refl _ _) n

theorem fix_Share (a b c : Int) (w : World) (ha0 : 0 ≤ a) (ha : a ≤ 18446744073709551615) (hb0 : 0 ≤ b) (hb : b ≤ 18446744073709551615) (hc0 : 0 ≤ c) (hc : c ≤ 18446744073709551615) :
    Calls Try.prog 15 #[.int .u64 a, .int .u64 b, .int .u64 c] w fun e w' => e = .returned (.int .u64 ((shareS a.toNat b.toNat c.toNat : Nat) : Int)) ∧ Drawn w w' := by
  obtain ⟨x, rfl⟩ := Int.eq_ofNat_of_zero_le ha0
  obtain ⟨y, rfl⟩ := Int.eq_ofNat_of_zero_le hb0
  obtain ⟨z, rfl⟩ := Int.eq_ofNat_of_zero_le hc0
  simp only [Int.toNat_natCast]
  have HD := Lib.hid (fix_divide x y z w (by omega) (by omega) (by omega))
  clear ha0 ha hb0 hb hc0 hc
  go_enter Try.func15, Try.ntmps15
  go_wp2_with (go_at_call 25; refine (HD.out).mono ?_; rintro e w'' ⟨rfl, n, rfl⟩)
  go_ret
  exact ⟨rfl, n, rfl⟩

theorem new_cell {W : World} {c : Array Value} {t : TypeId} {b i : Nat} {v : Value} (hb : b = W.heap.size) (h : c[i]? = some v) : (W.alloc (.cells c t)).cell? ⟨b, i, none⟩ = some v := by
  subst hb; simp [World.cell?_alloc_new, h]

/-- 'fix.Add(x)', 'fix.Add(x, y)', 'fix.Add(x, y, z)': the numbers lie in a new block of their own. -/
theorem fix_Add1 (W : World) (b cap : Nat) (x : Int) (hb : b = W.heap.size) (hx0 : 0 ≤ x) (hx : x ≤ 18446744073709551615) :
    Calls Try.prog 9 #[.slice (some ⟨b, 0, none⟩) 1 cap] (W.alloc (.cells #[.int .u64 x] 22)) fun e w' => e = .returned (.int .u64 ((sumS [x.toNat] : Nat) : Int)) ∧ W.alloc (.cells #[.int .u64 x] 22) = w' := by
  obtain ⟨x, rfl⟩ := Int.eq_ofNat_of_zero_le hx0
  simp only [Int.toNat_natCast]
  refine fix_Add b 0 cap [x] _ (by simp) (by simp; omega) ?_
  intro i hi
  match i, hi with
  | 0, _ => exact new_cell hb (by simp)

theorem fix_Add2 (W : World) (b cap : Nat) (x y : Int) (hb : b = W.heap.size) (hx0 : 0 ≤ x) (hx : x ≤ 18446744073709551615) (hy0 : 0 ≤ y) (hy : y ≤ 18446744073709551615) :
    Calls Try.prog 9 #[.slice (some ⟨b, 0, none⟩) 2 cap] (W.alloc (.cells #[.int .u64 x, .int .u64 y] 22)) fun e w' => e = .returned (.int .u64 ((addS x.toNat y.toNat : Nat) : Int)) ∧ W.alloc (.cells #[.int .u64 x, .int .u64 y] 22) = w' := by
  obtain ⟨x, rfl⟩ := Int.eq_ofNat_of_zero_le hx0
  obtain ⟨y, rfl⟩ := Int.eq_ofNat_of_zero_le hy0
  simp only [Int.toNat_natCast]
  rw [← sumS_two]
  refine fix_Add b 0 cap [x, y] _ (by simp) (by simp; omega) ?_
  intro i hi
  match i, hi with
  | 0, _ => exact new_cell hb (by simp)
  | 1, _ => exact new_cell hb (by simp)

theorem fix_Add3 (W : World) (b cap : Nat) (x y z : Int) (hb : b = W.heap.size) (hx0 : 0 ≤ x) (hx : x ≤ 18446744073709551615) (hy0 : 0 ≤ y) (hy : y ≤ 18446744073709551615) (hz0 : 0 ≤ z) (hz : z ≤ 18446744073709551615) :
    Calls Try.prog 9 #[.slice (some ⟨b, 0, none⟩) 3 cap] (W.alloc (.cells #[.int .u64 x, .int .u64 y, .int .u64 z] 22)) fun e w' => e = .returned (.int .u64 ((sumS [x.toNat, y.toNat, z.toNat] : Nat) : Int)) ∧ W.alloc (.cells #[.int .u64 x, .int .u64 y, .int .u64 z] 22) = w' := by
  obtain ⟨x, rfl⟩ := Int.eq_ofNat_of_zero_le hx0
  obtain ⟨y, rfl⟩ := Int.eq_ofNat_of_zero_le hy0
  obtain ⟨z, rfl⟩ := Int.eq_ofNat_of_zero_le hz0
  simp only [Int.toNat_natCast]
  refine fix_Add b 0 cap [x, y, z] _ (by simp) (by simp; omega) ?_
  intro i hi
  match i, hi with
  | 0, _ => exact new_cell hb (by simp)
  | 1, _ => exact new_cell hb (by simp)
  | 2, _ => exact new_cell hb (by simp)

theorem fix_Sub1 (W : World) (b cap : Nat) (a x : Int) (hb : b = W.heap.size) (ha0 : 0 ≤ a) (ha : a ≤ 18446744073709551615) (hx0 : 0 ≤ x) (hx : x ≤ 18446744073709551615) :
    Calls Try.prog 11 #[.int .u64 a, .slice (some ⟨b, 0, none⟩) 1 cap] (W.alloc (.cells #[.int .u64 x] 22)) fun e w' => e = .returned (.int .u64 ((subS a.toNat x.toNat : Nat) : Int)) ∧ W.alloc (.cells #[.int .u64 x] 22) = w' := by
  obtain ⟨x, rfl⟩ := Int.eq_ofNat_of_zero_le hx0
  simp only [Int.toNat_natCast]
  rw [show subS a.toNat x = lessS a.toNat [x] by simp [lessS, subS]]
  refine fix_Sub a b 0 cap [x] _ ha0 ha (by simp) (by simp; omega) ?_
  intro i hi
  match i, hi with
  | 0, _ => exact new_cell hb (by simp)

theorem fix_Sub2 (W : World) (b cap : Nat) (a x y : Int) (hb : b = W.heap.size) (ha0 : 0 ≤ a) (ha : a ≤ 18446744073709551615) (hx0 : 0 ≤ x) (hx : x ≤ 18446744073709551615) (hy0 : 0 ≤ y) (hy : y ≤ 18446744073709551615) :
    Calls Try.prog 11 #[.int .u64 a, .slice (some ⟨b, 0, none⟩) 2 cap] (W.alloc (.cells #[.int .u64 x, .int .u64 y] 22)) fun e w' => e = .returned (.int .u64 ((subS a.toNat (x.toNat + y.toNat) : Nat) : Int)) ∧ W.alloc (.cells #[.int .u64 x, .int .u64 y] 22) = w' := by
  obtain ⟨x, rfl⟩ := Int.eq_ofNat_of_zero_le hx0
  obtain ⟨y, rfl⟩ := Int.eq_ofNat_of_zero_le hy0
  simp only [Int.toNat_natCast]
  rw [show subS a.toNat (x + y) = lessS a.toNat [x, y] by simp [lessS, subS]]
  refine fix_Sub a b 0 cap [x, y] _ ha0 ha (by simp) (by simp; omega) ?_
  intro i hi
  match i, hi with
  | 0, _ => exact new_cell hb (by simp)
  | 1, _ => exact new_cell hb (by simp)

set_option maxHeartbeats 400000 in
theorem fix_Over_pl (x y z : Nat) (w : World) (hx : x ≤ 18446744073709551615) (hy : y ≤ 18446744073709551615) (hz : z ≤ 18446744073709551615) :
    Calls Try.prog 17 #[.int .u64 (x : Int), .int .u64 (y : Int), .int .u64 (z : Int)] w fun e w' => e = .returned (.int .u64 ((overS x y z : Nat) : Int)) ∧ Below w.heap.size w w' := by
  have HD := Lib.hid (fix_divide x y z w (by omega) (by omega) (by omega))
  have HO := Lib.hid (over_eq x y z)
  have bs := shareS_le x y z
  generalize shareS x y z = q at *
  generalize restS x y z = r at *
  by_cases h : r = 0
  · subst h
    go_enter Try.func17, Try.ntmps17
    go_wp2_with (go_at_call 25; refine (HD.out).mono ?_; rintro e w'' ⟨rfl, n, rfl⟩)
    go_ret
    exact ⟨ret_u64 (by rw [HO.out]; simp), Drawn.below ⟨n, rfl⟩⟩
  · have h' : ((r : Int) == 0) = false := beq_eq_false_iff_ne.2 (by omega)
    have HN := Lib.hid h
    clear h
    go_enter Try.func17, Try.ntmps17
    go_wp2_with (first | (go_at_call 25; refine (HD.out).mono ?_; rintro e w'' ⟨rfl, n, rfl⟩) | (go_at_call 9; refine (fix_Add2 _ _ _ (q : Int) 1 rfl (by omega) (by omega) (by omega) (by omega)).mono ?_; rintro e w'' ⟨rfl, rfl⟩))
    go_ret
    exact ⟨ret_u64 (by rw [HO.out, if_neg HN.out]), (Drawn.below ⟨n, rfl⟩).alloc (Nat.le_refl _) _⟩

theorem fix_Over (a b c : Int) (w : World) (ha0 : 0 ≤ a) (ha : a ≤ 18446744073709551615) (hb0 : 0 ≤ b) (hb : b ≤ 18446744073709551615) (hc0 : 0 ≤ c) (hc : c ≤ 18446744073709551615) :
    Calls Try.prog 17 #[.int .u64 a, .int .u64 b, .int .u64 c] w fun e w' => e = .returned (.int .u64 ((overS a.toNat b.toNat c.toNat : Nat) : Int)) ∧ Below w.heap.size w w' := by
  obtain ⟨x, rfl⟩ := Int.eq_ofNat_of_zero_le ha0
  obtain ⟨y, rfl⟩ := Int.eq_ofNat_of_zero_le hb0
  obtain ⟨z, rfl⟩ := Int.eq_ofNat_of_zero_le hc0
  simp only [Int.toNat_natCast]
  exact fix_Over_pl x y z w (by omega) (by omega) (by omega)

theorem fix_Mul_n (x y : Nat) (w : World) (hx : x ≤ 18446744073709551615) (hy : y ≤ 18446744073709551615) :
    Calls Try.prog 13 #[.int .u64 (x : Int), .int .u64 (y : Int)] w fun e w' => e = .returned (.int .u64 ((mulS x y : Nat) : Int)) ∧ w = w' := by
  have h := fix_Mul (x : Int) (y : Int) w (by omega) (by omega) (by omega) (by omega)
  simpa only [Int.toNat_natCast] using h

theorem fix_Share_n (x y z : Nat) (w : World) (hx : x ≤ 18446744073709551615) (hy : y ≤ 18446744073709551615) (hz : z ≤ 18446744073709551615) :
    Calls Try.prog 15 #[.int .u64 (x : Int), .int .u64 (y : Int), .int .u64 (z : Int)] w fun e w' => e = .returned (.int .u64 ((shareS x y z : Nat) : Int)) ∧ Drawn w w' := by
  have h := fix_Share (x : Int) (y : Int) (z : Int) w (by omega) (by omega) (by omega) (by omega) (by omega) (by omega)
  simpa only [Int.toNat_natCast] using h

theorem fix_Add2_n (W : World) (b cap x y : Nat) (hb : b = W.heap.size) (hx : x ≤ 18446744073709551615) (hy : y ≤ 18446744073709551615) :
    Calls Try.prog 9 #[.slice (some ⟨b, 0, none⟩) 2 cap] (W.alloc (.cells #[.int .u64 (x : Int), .int .u64 (y : Int)] 22)) fun e w' => e = .returned (.int .u64 ((addS x y : Nat) : Int)) ∧ W.alloc (.cells #[.int .u64 (x : Int), .int .u64 (y : Int)] 22) = w' := by
  have h := fix_Add2 W b cap (x : Int) (y : Int) hb (by omega) (by omega) (by omega) (by omega)
  simpa only [Int.toNat_natCast] using h

theorem fix_Sub1_n (W : World) (b cap a x : Nat) (hb : b = W.heap.size) (ha : a ≤ 18446744073709551615) (hx : x ≤ 18446744073709551615) :
    Calls Try.prog 11 #[.int .u64 (a : Int), .slice (some ⟨b, 0, none⟩) 1 cap] (W.alloc (.cells #[.int .u64 (x : Int)] 22)) fun e w' => e = .returned (.int .u64 ((subS a x : Nat) : Int)) ∧ W.alloc (.cells #[.int .u64 (x : Int)] 22) = w' := by
  have h := fix_Sub1 W b cap (a : Int) (x : Int) hb (by omega) (by omega) (by omega) (by omega)
  simpa only [Int.toNat_natCast] using h

/-! ### the same, of what was there ahead of the numbers' own block -/

theorem bnext {w a b : World} (h : Below w.heap.size w a) (k : Below a.heap.size a b) : Below w.heap.size w b := h.trans (k.mono h.size)

theorem add2_b (W : World) (b cap x y : Nat) (hb : b = W.heap.size) (hx : x ≤ 18446744073709551615) (hy : y ≤ 18446744073709551615) :
    Calls Try.prog 9 #[.slice (some ⟨b, 0, none⟩) 2 cap] (W.alloc (.cells #[.int .u64 (x : Int), .int .u64 (y : Int)] 22)) fun e w' => e = .returned (.int .u64 ((addS x y : Nat) : Int)) ∧ Below W.heap.size W w' :=
  (fix_Add2_n W b cap x y hb hx hy).mono fun _ _ h => ⟨h.1, h.2 ▸ (Below.refl _ _).alloc (Nat.le_refl _) _⟩

theorem add3_b (W : World) (b cap x y z : Nat) (hb : b = W.heap.size) (hx : x ≤ 18446744073709551615) (hy : y ≤ 18446744073709551615) (hz : z ≤ 18446744073709551615) :
    Calls Try.prog 9 #[.slice (some ⟨b, 0, none⟩) 3 cap] (W.alloc (.cells #[.int .u64 (x : Int), .int .u64 (y : Int), .int .u64 (z : Int)] 22)) fun e w' => e = .returned (.int .u64 ((sumS [x, y, z] : Nat) : Int)) ∧ Below W.heap.size W w' := by
  have h := fix_Add3 W b cap (x : Int) (y : Int) (z : Int) hb (by omega) (by omega) (by omega) (by omega) (by omega) (by omega)
  simp only [Int.toNat_natCast] at h
  exact h.mono fun _ _ h => ⟨h.1, h.2 ▸ (Below.refl _ _).alloc (Nat.le_refl _) _⟩

theorem sub1_b (W : World) (b cap a x : Nat) (hb : b = W.heap.size) (ha : a ≤ 18446744073709551615) (hx : x ≤ 18446744073709551615) :
    Calls Try.prog 11 #[.int .u64 (a : Int), .slice (some ⟨b, 0, none⟩) 1 cap] (W.alloc (.cells #[.int .u64 (x : Int)] 22)) fun e w' => e = .returned (.int .u64 ((subS a x : Nat) : Int)) ∧ Below W.heap.size W w' :=
  (fix_Sub1_n W b cap a x hb ha hx).mono fun _ _ h => ⟨h.1, h.2 ▸ (Below.refl _ _).alloc (Nat.le_refl _) _⟩

theorem share_b (x y z : Nat) (w : World) (hx : x ≤ 18446744073709551615) (hy : y ≤ 18446744073709551615) (hz : z ≤ 18446744073709551615) :
    Calls Try.prog 15 #[.int .u64 (x : Int), .int .u64 (y : Int), .int .u64 (z : Int)] w fun e w' => e = .returned (.int .u64 ((shareS x y z : Nat) : Int)) ∧ Below w.heap.size w w' :=
  (fix_Share_n x y z w hx hy hz).mono fun _ _ h => ⟨h.1, h.2.below⟩
end Go.Proofs.Ytjaiffmdoodfaaa
