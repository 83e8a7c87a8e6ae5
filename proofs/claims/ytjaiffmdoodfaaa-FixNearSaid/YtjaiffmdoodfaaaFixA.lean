/- Contracts of fix.Add, fix.Sub and fix.Mul over this translation: sums, differences and products that stop at 2^64 - 1 and at 0. -/
import Derived.Test.YtjaiffmdoodfaaaShelf
import Derived.Test.YtjaiffmdoodfaaaPl
import Derived.WalkKit
import Derived.WalkLawsBesides
import Derived.Shelf.Spec.BitsCarry
import Derived.Lib.Hide
import Derived.Outline
set_option linter.unusedVariables false
namespace Go.Proofs.Ytjaiffmdoodfaaa
open Go.RowKit Pl

/-- The cells of a row of uint64s. -/
def Row (w : World) (b off : Nat) (zs : List Nat) : Prop := ∀ i, i < zs.length → w.cell? ⟨b, off + i, none⟩ = some (.int .u64 ((zs.getD i 0 : Nat) : Int))

theorem add64_run (x y : Int) (hx : 0 ≤ x) (hy : 0 ≤ y) (w : World) :
    (callFunc 19 #[.int .u64 x, .int .u64 y, .int .u64 0]).run Try.prog w =
      .ok (.value (.tuple #[.int .u64 ((x + y + 0) % 18446744073709551616), .int .u64 ((x + y + 0) / 18446744073709551616)])) w := by
  rw [run_callFunc_extern Try.func19 (by kernel_rfl) (by kernel_rfl) (by kernel_rfl) (e := add64Entry) (by kernel_rfl), run_add64 x y 0 hx hy (by omega) (by omega)]
  rfl

theorem add64_no (x y : Int) (hx : 0 ≤ x) (hy : 0 ≤ y) (h : x + y ≤ 18446744073709551615) (w : World) :
    (callFunc 19 #[.int .u64 x, .int .u64 y, .int .u64 0]).run Try.prog w = .ok (.value (.tuple #[.int .u64 (x + y), .int .u64 0])) w := by
  rw [add64_run x y hx hy, show (x + y + 0) % 18446744073709551616 = x + y by omega, show (x + y + 0) / 18446744073709551616 = 0 by omega]

theorem add64_yes (x y : Int) (hx : 0 ≤ x) (hy : 0 ≤ y) (hx' : x ≤ 18446744073709551615) (hy' : y ≤ 18446744073709551615) (h : 18446744073709551615 < x + y) (w : World) :
    (callFunc 19 #[.int .u64 x, .int .u64 y, .int .u64 0]).run Try.prog w = .ok (.value (.tuple #[.int .u64 ((x + y + 0) % 18446744073709551616), .int .u64 1])) w := by
  rw [add64_run x y hx hy, show (x + y + 0) / 18446744073709551616 = 1 by omega]

theorem take_succ_sum (zs : List Nat) (k : Nat) (h : k < zs.length) : (zs.take (k + 1)).sum = (zs.take k).sum + zs.getD k 0 := by
  rw [List.take_succ_eq_append_getElem h, List.sum_append]
  simp [List.getD_eq_getElem?_getD, h]

theorem take_sum_le (zs : List Nat) (k : Nat) : (zs.take k).sum ≤ zs.sum := by
  conv => rhs; rw [← List.take_append_drop k zs, List.sum_append]
  omega

theorem Row.bd {zs : List Nat} (h : ∀ z ∈ zs, z ≤ 18446744073709551615) (k : Nat) : zs.getD k 0 ≤ 18446744073709551615 := by
  rw [List.getD_eq_getElem?_getD]
  cases e : zs[k]? with
  | none => simp
  | some z => exact h z (List.mem_of_getElem? e)

set_option maxHeartbeats 400000 in
theorem fix_Add (b off cap : Nat) (zs : List Nat) (w : World) (hl : zs.length ≤ 9223372036854775807) (hz : ∀ z ∈ zs, z ≤ 18446744073709551615) (hrow : Row w b off zs) :
    Calls Try.prog 9 #[.slice (some ⟨b, off, none⟩) zs.length cap] w fun e w' => e = .returned (.int .u64 ((sumS zs : Nat) : Int)) ∧ w = w' := by
  have HZ := Lib.hid hz
  have HR := Lib.hid hrow
  clear hz hrow
  go_enter Try.func9, Try.ntmps9
  go_wp2
  go_loop [3, 10] (fun s i => ∃ k : Nat, k ≤ zs.length ∧ i = .int .i64 k ∧ (zs.take k).sum ≤ 18446744073709551615 ∧ s = .int .u64 ((zs.take k).sum : Nat)) (fun _ i => zs.length - (intOf i).toNat)
  case atStart => exact ⟨0, Nat.zero_le _, rfl, by simp, by simp⟩
  case round =>
    obtain ⟨k, hk, rfl, hs, rfl⟩ := hrel
    by_cases hlt : k < zs.length
    · have hcell := HR.out k hlt
      have hbd := Row.bd HZ.out k
      have HS := Lib.hid (take_succ_sum zs k hlt)
      have HL := Lib.hid (take_sum_le zs (k + 1))
      generalize zs.getD k 0 = z at *
      generalize (zs.take k).sum = t at *
      by_cases hc : t + z ≤ 18446744073709551615
      · have hrun := add64_no (t : Int) (z : Int) (by omega) (by omega) (by omega)
        go_wp2
        go_round
        case rel => exact ⟨k + 1, by omega, by go_num, by rw [HS.out]; exact hc, by rw [HS.out]; simp⟩
        case measure => simp [intOf]; omega
      · have hrun := add64_yes (t : Int) (z : Int) (by omega) (by omega) (by omega) (by omega) (by omega)
        go_wp2
        go_ret
        refine ⟨?_, rfl⟩
        have e : sumS zs = 18446744073709551615 := by have a := HS.out; have b := HL.out; unfold sumS; omega
        rw [e]; rfl
    · go_wp2
      go_ret
      refine ⟨?_, rfl⟩
      have e : (zs.take k).sum = sumS zs := by rw [List.take_of_length_le (by omega)] at hs ⊢; unfold sumS; omega
      rw [e]
      rfl

/-- No numbers: a nil row. -/
theorem fix_Add_nil (v : Option Addr) (cap : Nat) (w : World) :
    Calls Try.prog 9 #[.slice v 0 cap] w fun e w' => e = .returned (.int .u64 0) ∧ w = w' := by
  go_enter Try.func9, Try.ntmps9
  go_wp2
  go_loop [3, 10] (fun s i => i = .int .i64 0 ∧ s = .int .u64 0) (fun _ i => 0)
  case atStart => exact ⟨rfl, rfl⟩
  case round =>
    obtain ⟨rfl, rfl⟩ := hrel
    go_wp2
    go_ret
    exact ⟨rfl, rfl⟩

theorem sub64_no (x y : Nat) (h : y ≤ x) (hx : x ≤ 18446744073709551615) (w : World) :
    (callFunc 21 #[.int .u64 x, .int .u64 y, .int .u64 0]).run Try.prog w = .ok (.value (.tuple #[.int .u64 ((x - y : Nat) : Int), .int .u64 0])) w := by
  have h0 := run_sub64 (P := Try.prog) x y 0 (by omega) w
  rw [run_callFunc_extern Try.func21 (by kernel_rfl) (by kernel_rfl) (by kernel_rfl) (e := sub64Entry) (by kernel_rfl)]
  rw [show (x + 18446744073709551616 - y - 0) % 18446744073709551616 = x - y by omega, if_neg (by omega)] at h0
  exact (congrArg (fun r => Result.andThen r fun v w' => .ok (Next.value v) w') h0)

theorem sub64_yes (x y : Nat) (h : x < y) (hx : x ≤ 18446744073709551615) (w : World) :
    (callFunc 21 #[.int .u64 x, .int .u64 y, .int .u64 0]).run Try.prog w = .ok (.value (.tuple #[.int .u64 (((x + 18446744073709551616 - y - 0) % 18446744073709551616 : Nat) : Int), .int .u64 1])) w := by
  have h0 := run_sub64 (P := Try.prog) x y 0 (by omega) w
  rw [run_callFunc_extern Try.func21 (by kernel_rfl) (by kernel_rfl) (by kernel_rfl) (e := sub64Entry) (by kernel_rfl)]
  rw [if_pos (by omega)] at h0
  exact (congrArg (fun r => Result.andThen r fun v w' => .ok (Next.value v) w') h0)

theorem lessS_le_row (a : Nat) (zs : List Nat) (h : a ≤ 18446744073709551615) (hs : sumS zs ≤ a) : a - sumS zs = lessS a zs := by
  unfold sumS at hs ⊢; unfold lessS; omega
theorem lessS_zero (a : Nat) (zs : List Nat) (h : a ≤ 18446744073709551615) (hs : a < sumS zs) : lessS a zs = 0 := by
  unfold sumS at hs; unfold lessS; omega

theorem ret_u64 {a b : Int} (h : a = b) : Ending.returned (.int .u64 a) = .returned (.int .u64 b) := by rw [h]

theorem fix_Sub (a : Int) (b off cap : Nat) (zs : List Nat) (w : World) (ha0 : 0 ≤ a) (ha : a ≤ 18446744073709551615) (hl : zs.length ≤ 9223372036854775807) (hz : ∀ z ∈ zs, z ≤ 18446744073709551615) (hrow : Row w b off zs) :
    Calls Try.prog 11 #[.int .u64 a, .slice (some ⟨b, off, none⟩) zs.length cap] w fun e w' => e = .returned (.int .u64 ((lessS a.toNat zs : Nat) : Int)) ∧ w = w' := by
  obtain ⟨n, rfl⟩ := Int.eq_ofNat_of_zero_le ha0
  rw [Int.toNat_natCast]
  have hn : n ≤ 18446744073709551615 := by omega
  have HA := Lib.hid (fix_Add b off cap zs w hl hz hrow)
  clear hz hrow hl ha0 ha
  by_cases h : sumS zs ≤ n
  · have HE := Lib.hid (lessS_le_row n zs hn h)
    have hrun := sub64_no n (sumS zs) h hn
    go_enter Try.func11, Try.ntmps11
    go_wp2_with (go_at_call 9; refine (HA.out).mono ?_; rintro e w' ⟨rfl, rfl⟩)
    go_ret
    exact ⟨ret_u64 (by rw [HE.out]), rfl⟩
  · have HE := Lib.hid (lessS_zero n zs hn (by omega))
    have hrun := sub64_yes n (sumS zs) (by omega) hn
    go_enter Try.func11, Try.ntmps11
    go_wp2_with (go_at_call 9; refine (HA.out).mono ?_; rintro e w' ⟨rfl, rfl⟩)
    go_ret
    exact ⟨ret_u64 (by rw [HE.out]; rfl), rfl⟩

theorem mul_hi_iff (a b : Nat) : a * b / 18446744073709551616 = 0 ↔ a * b ≤ 18446744073709551615 := by omega

theorem fix_Mul (a b : Int) (w : World) (ha0 : 0 ≤ a) (ha : a ≤ 18446744073709551615) (hb0 : 0 ≤ b) (hb : b ≤ 18446744073709551615) :
    Calls Try.prog 13 #[.int .u64 a, .int .u64 b] w fun e w' => e = .returned (.int .u64 ((mulS a.toNat b.toNat : Nat) : Int)) ∧ w = w' := by
  obtain ⟨x, rfl⟩ := Int.eq_ofNat_of_zero_le ha0
  obtain ⟨y, rfl⟩ := Int.eq_ofNat_of_zero_le hb0
  simp only [Int.toNat_natCast]
  have HM := Lib.hid (Try.bits_Mul64 x y (by omega) (by omega) w)
  have HE : Hid (mulS x y = min (x * y) 18446744073709551615) := Lib.hid rfl
  generalize x * y = p at *
  have HL := Lib.hid (show p % 18446744073709551616 < 18446744073709551616 by omega)
  have HD := Lib.hid (show p = 18446744073709551616 * (p / 18446744073709551616) + p % 18446744073709551616 by omega)
  generalize p / 18446744073709551616 = hi at *
  generalize p % 18446744073709551616 = lo at *
  clear ha0 ha hb0 hb
  by_cases h : hi = 0
  · subst h
    go_enter Try.func13, Try.ntmps13
    go_wp2_with (go_at_call 23; refine (HM.out).mono ?_; rintro e w' ⟨rfl, hw⟩; rw [hw])
    go_ret
    exact ⟨ret_u64 (by have a := HE.out; have b := HL.out; have c := HD.out; omega), rfl⟩
  · have h' : 0 < hi := by omega
    go_enter Try.func13, Try.ntmps13
    go_wp2_with (go_at_call 23; refine (HM.out).mono ?_; rintro e w' ⟨rfl, hw⟩; rw [hw])
    go_ret
    exact ⟨ret_u64 (by have a := HE.out; have b := HL.out; have c := HD.out; omega), rfl⟩
end Go.Proofs.Ytjaiffmdoodfaaa
