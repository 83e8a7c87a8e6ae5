/- Contracts of the document's own answers of layer 1 (goitref01), over this translation: the exported ones. -/
import Derived.Test.YtjaiffmdoodfaaaRef01
set_option linter.unusedVariables false
namespace Go.Proofs.Ytjaiffmdoodfaaa
open Go.RowKit Pl

theorem ref_Add (a b : Nat) (w : World) (ha : a ≤ 18446744073709551615) (hb : b ≤ 18446744073709551615) :
    Calls Try.prog 20 #[.int .u64 (a : Int), .int .u64 (b : Int)] w fun e w' => e = .returned (.int .u64 ((addS a b : Nat) : Int)) ∧ w = w' := by
  by_cases h : 18446744073709551615 < a + b
  · have t : decide ((18446744073709551615 : Int) - (b : Int) < (a : Int)) = true := decide_eq_true (by omega)
    have HE : Hid (addS a b = 18446744073709551615) := Lib.hid (by unfold addS; omega)
    clear h
    go_enter Try.func20, Try.ntmps20
    go_wp2
    go_ret
    exact ⟨ret_u64 (by rw [HE.out]; rfl), rfl⟩
  · have t : decide ((18446744073709551615 : Int) - (b : Int) < (a : Int)) = false := decide_eq_false (by omega)
    have HE : Hid (addS a b = a + b) := Lib.hid (by unfold addS; omega)
    have h' : a + b ≤ 18446744073709551615 := by omega
    clear h
    go_enter Try.func20, Try.ntmps20
    go_wp2
    go_ret
    exact ⟨ret_u64 (by rw [HE.out]; simp), rfl⟩

theorem ref_Sub (a b : Nat) (w : World) (ha : a ≤ 18446744073709551615) (hb : b ≤ 18446744073709551615) :
    Calls Try.prog 22 #[.int .u64 (a : Int), .int .u64 (b : Int)] w fun e w' => e = .returned (.int .u64 ((subS a b : Nat) : Int)) ∧ w = w' := by
  by_cases h : a < b
  · have HE : Hid (subS a b = 0) := Lib.hid (by unfold subS; omega)
    go_enter Try.func22, Try.ntmps22
    go_wp2
    go_ret
    exact ⟨ret_u64 (by rw [HE.out]; rfl), rfl⟩
  · have HE : Hid ((subS a b : Int) = (a : Int) - (b : Int)) := Lib.hid (by unfold subS; omega)
    have h' : b ≤ a := by omega
    clear h
    go_enter Try.func22, Try.ntmps22
    go_wp2
    go_ret
    exact ⟨ret_u64 HE.out.symm, rfl⟩

theorem ref_Mul (x y : Nat) (w : World) (hx : x ≤ 18446744073709551615) (hy : y ≤ 18446744073709551615) :
    Calls Try.prog 14 #[.int .u64 (x : Int), .int .u64 (y : Int)] w fun e w' => e = .returned (.int .u64 ((mulS x y : Nat) : Int)) ∧ w = w' := by
  have HM := Lib.hid (ref_product x y w hx hy)
  have HE : Hid (mulS x y = min (x * y) 18446744073709551615) := Lib.hid rfl
  generalize x * y = p at *
  have HL := Lib.hid (show p % 18446744073709551616 < 18446744073709551616 by omega)
  have HD := Lib.hid (show p = 18446744073709551616 * (p / 18446744073709551616) + p % 18446744073709551616 by omega)
  generalize p / 18446744073709551616 = hi at *
  generalize p % 18446744073709551616 = lo at *
  by_cases h : hi = 0
  · subst h
    go_enter Try.func14, Try.ntmps14
    go_wp2_with (go_at_call 24; refine (HM.out).mono ?_; rintro e w' ⟨rfl, rfl⟩)
    go_ret
    exact ⟨ret_u64 (by have a := HE.out; have b := HL.out; have c := HD.out; omega), rfl⟩
  · have h' : 0 < hi := by omega
    go_enter Try.func14, Try.ntmps14
    go_wp2_with (go_at_call 24; refine (HM.out).mono ?_; rintro e w' ⟨rfl, rfl⟩)
    go_ret
    exact ⟨ret_u64 (by have a := HE.out; have b := HL.out; have c := HD.out; omega), rfl⟩

theorem ref_Share (x y z : Nat) (w : World) (hx : x ≤ 18446744073709551615) (hy : y ≤ 18446744073709551615) (hz : z ≤ 18446744073709551615) :
    Calls Try.prog 16 #[.int .u64 (x : Int), .int .u64 (y : Int), .int .u64 (z : Int)] w fun e w' => e = .returned (.int .u64 ((shareS x y z : Nat) : Int)) ∧ w = w' := by
  have HM := Lib.hid (ref_product x y w hx hy)
  have hlo : x * y % 18446744073709551616 ≤ 18446744073709551615 := by omega
  have HP : Hid (x * y / 18446744073709551616 * 18446744073709551616 + x * y % 18446744073709551616 = x * y) := Lib.hid (by omega)
  by_cases h : z ≤ x * y / 18446744073709551616
  · have HS := Lib.hid (share_top x y z h)
    generalize x * y / 18446744073709551616 = hi at *
    generalize x * y % 18446744073709551616 = lo at *
    go_enter Try.func16, Try.ntmps16
    go_wp2_with (go_at_call 24; refine (HM.out).mono ?_; rintro e w' ⟨rfl, rfl⟩)
    go_ret
    exact ⟨ret_u64 (by rw [HS.out]; rfl), rfl⟩
  · have HS := Lib.hid (share_in x y z (by omega))
    generalize x * y / 18446744073709551616 = hi at *
    generalize x * y % 18446744073709551616 = lo at *
    have hd := ref_divide hi lo z w (by omega) hlo hz
    rw [HP.out, ← HS.out] at hd
    have HD := Lib.hid hd
    clear hd HS
    generalize shareS x y z = q at *
    generalize x * y % z = r at *
    go_enter Try.func16, Try.ntmps16
    go_wp2_with (first | (go_at_call 24; refine (HM.out).mono ?_; rintro e w' ⟨rfl, rfl⟩) | (go_at_call 26; refine (HD.out).mono ?_; rintro e w' ⟨rfl, rfl⟩))
    go_ret
    exact ⟨rfl, rfl⟩

theorem ref_Over (x y z : Nat) (w : World) (hx : x ≤ 18446744073709551615) (hy : y ≤ 18446744073709551615) (hz : z ≤ 18446744073709551615) :
    Calls Try.prog 18 #[.int .u64 (x : Int), .int .u64 (y : Int), .int .u64 (z : Int)] w fun e w' => e = .returned (.int .u64 ((overS x y z : Nat) : Int)) ∧ w = w' := by
  have HM := Lib.hid (ref_product x y w hx hy)
  have hlo : x * y % 18446744073709551616 ≤ 18446744073709551615 := by omega
  have HP : Hid (x * y / 18446744073709551616 * 18446744073709551616 + x * y % 18446744073709551616 = x * y) := Lib.hid (by omega)
  have HO := Lib.hid (over_eq x y z)
  by_cases h : z ≤ x * y / 18446744073709551616
  · have HS := Lib.hid (share_top x y z h)
    have HR : Hid (restS x y z = 0) := Lib.hid (by unfold restS; rw [if_pos h])
    generalize x * y / 18446744073709551616 = hi at *
    generalize x * y % 18446744073709551616 = lo at *
    go_enter Try.func18, Try.ntmps18
    go_wp2_with (go_at_call 24; refine (HM.out).mono ?_; rintro e w' ⟨rfl, rfl⟩)
    go_ret
    exact ⟨ret_u64 (by rw [HO.out, HR.out, if_pos rfl, HS.out]; rfl), rfl⟩
  · have HS := Lib.hid (share_in x y z (by omega))
    have HR : Hid (restS x y z = x * y % z) := Lib.hid (by unfold restS; rw [if_neg h])
    generalize x * y / 18446744073709551616 = hi at *
    generalize x * y % 18446744073709551616 = lo at *
    have hd := ref_divide hi lo z w (by omega) hlo hz
    rw [HP.out, ← HS.out, ← HR.out] at hd
    have HD := Lib.hid hd
    have bs := shareS_le x y z
    clear hd HS HR
    generalize shareS x y z = q at *
    generalize restS x y z = r at *
    by_cases h0 : r = 0
    · subst h0
      go_enter Try.func18, Try.ntmps18
      go_wp2_with (first | (go_at_call 24; refine (HM.out).mono ?_; rintro e w' ⟨rfl, rfl⟩) | (go_at_call 26; refine (HD.out).mono ?_; rintro e w' ⟨rfl, rfl⟩))
      go_ret
      exact ⟨ret_u64 (by rw [HO.out]; simp), rfl⟩
    · have h1 : 0 < r := by omega
      have HN := Lib.hid h0
      have HA := Lib.hid (fun w => ref_Add q 1 w bs (by omega))
      clear h0
      go_enter Try.func18, Try.ntmps18
      go_wp2_with (first | (go_at_call 24; refine (HM.out).mono ?_; rintro e w' ⟨rfl, rfl⟩) | (go_at_call 26; refine (HD.out).mono ?_; rintro e w' ⟨rfl, rfl⟩) | (go_at_call 20; refine (HA.out _).mono ?_; rintro e w' ⟨rfl, rfl⟩))
      go_ret
      exact ⟨ret_u64 (by rw [HO.out, if_neg HN.out]), rfl⟩

theorem sumS_snoc (zs : List Nat) (k : Nat) (h : k < zs.length) : addS (sumS (zs.take k)) (zs.getD k 0) = sumS (zs.take (k + 1)) := by
  unfold addS sumS
  rw [take_succ_sum zs k h]
  omega
theorem lessS_snoc (a : Nat) (zs : List Nat) (k : Nat) (h : k < zs.length) : subS (lessS a (zs.take k)) (zs.getD k 0) = lessS a (zs.take (k + 1)) := by
  unfold subS lessS
  rw [take_succ_sum zs k h]
  omega

def SumRel (zs : List Nat) (s i : Value) : Prop := ∃ k : Nat, k ≤ zs.length ∧ i = .int .i64 (k : Int) ∧ s = .int .u64 ((sumS (zs.take k) : Nat) : Int)
def LessRel (a : Nat) (zs : List Nat) (s i : Value) : Prop := ∃ k : Nat, k ≤ zs.length ∧ i = .int .i64 (k : Int) ∧ s = .int .u64 ((lessS a (zs.take k) : Nat) : Int)

set_option maxHeartbeats 400000 in
theorem ref_Sum (b off cap : Nat) (zs : List Nat) (w : World) (hl : zs.length ≤ 9223372036854775807) (hz : ∀ z ∈ zs, z ≤ 18446744073709551615) (hrow : Row w b off zs) :
    Calls Try.prog 10 #[.slice (some ⟨b, off, none⟩) zs.length cap] w fun e w' => e = .returned (.int .u64 ((sumS zs : Nat) : Int)) ∧ w = w' := by
  have HZ := Lib.hid hz
  have HR := Lib.hid hrow
  clear hz hrow
  go_enter Try.func10, Try.ntmps10
  go_wp2
  go_loop [3, 4] (fun s i => SumRel zs s i) (fun _ i => zs.length - (intOf i).toNat)
  case atStart => exact ⟨0, Nat.zero_le _, rfl, rfl⟩
  case round =>
    obtain ⟨k, hk, rfl, rfl⟩ := hrel
    by_cases hlt : k < zs.length
    · have hcell := HR.out k hlt
      have HS := Lib.hid (sumS_snoc zs k hlt)
      have bz := Row.bd HZ.out k
      have bs := sumS_le (zs.take k)
      generalize zs.getD k 0 = z at *
      generalize sumS (zs.take k) = t at *
      go_wp2_with (go_at_call 20; refine (ref_Add t z _ bs bz).mono ?_; rintro e w' ⟨rfl, rfl⟩)
      go_round
      case rel => exact ⟨k + 1, by omega, by go_num, by rw [HS.out]⟩
      case measure => simp [intOf]; omega
    · go_wp2
      go_ret
      exact ⟨ret_u64 (by rw [List.take_of_length_le (by omega)]), rfl⟩

theorem ref_Sum_nil (v : Option Addr) (cap : Nat) (w : World) : Calls Try.prog 10 #[.slice v 0 cap] w fun e w' => e = .returned (.int .u64 0) ∧ w = w' := by
  go_enter Try.func10, Try.ntmps10
  go_wp2
  go_loop [3, 4] (fun s i => i = .int .i64 0 ∧ s = .int .u64 0) (fun _ i => 0)
  case atStart => exact ⟨rfl, rfl⟩
  case round =>
    obtain ⟨rfl, rfl⟩ := hrel
    go_wp2
    go_ret
    exact ⟨rfl, rfl⟩

set_option maxHeartbeats 400000 in
theorem ref_Less (a : Nat) (b off cap : Nat) (zs : List Nat) (w : World) (ha : a ≤ 18446744073709551615) (hl : zs.length ≤ 9223372036854775807) (hz : ∀ z ∈ zs, z ≤ 18446744073709551615) (hrow : Row w b off zs) :
    Calls Try.prog 12 #[.int .u64 (a : Int), .slice (some ⟨b, off, none⟩) zs.length cap] w fun e w' => e = .returned (.int .u64 ((lessS a zs : Nat) : Int)) ∧ w = w' := by
  have HZ := Lib.hid hz
  have HR := Lib.hid hrow
  clear hz hrow
  go_enter Try.func12, Try.ntmps12
  go_wp2
  go_loop [0, 5] (fun s i => LessRel a zs s i) (fun _ i => zs.length - (intOf i).toNat)
  case atStart => exact ⟨0, Nat.zero_le _, rfl, rfl⟩
  case round =>
    obtain ⟨k, hk, rfl, rfl⟩ := hrel
    by_cases hlt : k < zs.length
    · have hcell := HR.out k hlt
      have HS := Lib.hid (lessS_snoc a zs k hlt)
      have bz := Row.bd HZ.out k
      have bs := Nat.le_trans (lessS_le a (zs.take k)) ha
      generalize zs.getD k 0 = z at *
      generalize lessS a (zs.take k) = t at *
      go_wp2_with (go_at_call 22; refine (ref_Sub t z _ bs bz).mono ?_; rintro e w' ⟨rfl, rfl⟩)
      go_round
      case rel => exact ⟨k + 1, by omega, by go_num, by rw [HS.out]⟩
      case measure => simp [intOf]; omega
    · go_wp2
      go_ret
      exact ⟨ret_u64 (by rw [List.take_of_length_le (by omega)]), rfl⟩

theorem ref_Less_nil (a : Nat) (v : Option Addr) (cap : Nat) (w : World) (ha : a ≤ 18446744073709551615) : Calls Try.prog 12 #[.int .u64 (a : Int), .slice v 0 cap] w fun e w' => e = .returned (.int .u64 (a : Int)) ∧ w = w' := by
  go_enter Try.func12, Try.ntmps12
  go_wp2
  go_loop [0, 5] (fun s i => i = .int .i64 0 ∧ s = .int .u64 (a : Int)) (fun _ i => 0)
  case atStart => exact ⟨rfl, rfl⟩
  case round =>
    obtain ⟨rfl, rfl⟩ := hrel
    go_wp2
    go_ret
    exact ⟨rfl, rfl⟩
end Go.Proofs.Ytjaiffmdoodfaaa
