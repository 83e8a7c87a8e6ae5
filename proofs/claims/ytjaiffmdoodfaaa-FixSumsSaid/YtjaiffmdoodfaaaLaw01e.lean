/- FixParts and FixSums: the walks. -/
import Derived.Test.YtjaiffmdoodfaaaLaw01a
import Derived.Test.YtjaiffmdoodfaaaRef01b
set_option linter.unusedVariables false
namespace Go.Proofs.Ytjaiffmdoodfaaa
open Go.RowKit Pl

set_option maxHeartbeats 1000000 in
theorem FixParts_walk (a b c : Nat) (w : World) (ha : a ≤ 18446744073709551615) (hb : b ≤ 18446744073709551615) (hc : c ≤ 18446744073709551615) :
    Calls Try.prog 4 #[.int .u64 (a : Int), .int .u64 (b : Int), .int .u64 (c : Int)] w fun e w' => e = .returned (.bool true) ∧ Below w.heap.size w w' := by
  go_enter Try.func4, Try.ntmps4
  go_wp2_with fail
  refine (alive01 _).mono ?_
  rintro e w1 ⟨rfl, h1⟩
  go_wp2_with fail
  refine (fix_Mul_n _ _ _ ha hb).mono ?_
  rintro e w' ⟨rfl, rfl⟩
  go_wp2_with fail
  refine (ref_Mul _ _ _ ha hb).mono ?_
  rintro e w' ⟨rfl, rfl⟩
  go_wp2_with fail
  refine (share_b _ _ _ _ ha hb hc).mono ?_
  rintro e w2 ⟨rfl, h2⟩
  go_wp2_with fail
  refine (ref_Share _ _ _ _ ha hb hc).mono ?_
  rintro e w' ⟨rfl, rfl⟩
  go_wp2_with fail
  refine (fix_Over_pl _ _ _ _ ha hb hc).mono ?_
  rintro e w3 ⟨rfl, h3⟩
  go_wp2_with fail
  refine (ref_Over _ _ _ _ ha hb hc).mono ?_
  rintro e w' ⟨rfl, rfl⟩
  go_wp2_with fail
  go_ret
  exact ⟨rfl, bnext (bnext h1 h2) h3⟩

theorem Row.below {w w' : World} {b off : Nat} {zs : List Nat} (h : Row w b off zs) (hb : b < w.heap.size) (k : Below w.heap.size w w') : Row w' b off zs := by
  intro i hi
  rw [← h i hi]
  exact k.cell (p := ⟨b, off + i, none⟩) hb

theorem fix_Sub_nil (a : Nat) (v : Option Addr) (cap : Nat) (w : World) (ha : a ≤ 18446744073709551615) :
    Calls Try.prog 11 #[.int .u64 (a : Int), .slice v 0 cap] w fun e w' => e = .returned (.int .u64 (a : Int)) ∧ w = w' := by
  have hrun : ∀ w, (callFunc 21 #[.int .u64 (a : Int), .int .u64 0, .int .u64 0]).run Try.prog w = .ok (.value (.tuple #[.int .u64 (a : Int), .int .u64 0])) w := sub64_no a 0 (Nat.zero_le _) ha
  go_enter Try.func11, Try.ntmps11
  go_wp2_with fail
  refine (fix_Add_nil _ _ _).mono ?_
  rintro e w' ⟨rfl, rfl⟩
  go_wp2
  go_ret
  exact ⟨rfl, rfl⟩

theorem FixSums_long (a : Nat) (v : Option Addr) (len cap : Nat) (w : World) (hl : 100 < len) :
    Calls Try.prog 3 #[.int .u64 (a : Int), .slice v len cap] w fun e w' => e = .returned (.bool true) ∧ Below w.heap.size w w' := by
  go_enter Try.func3, Try.ntmps3
  go_wp2_with fail
  refine (alive01 _).mono ?_
  rintro e w1 ⟨rfl, h1⟩
  go_wp2_with fail
  go_ret
  exact ⟨rfl, h1⟩

theorem FixSums_nil (a : Nat) (v : Option Addr) (cap : Nat) (w : World) (ha : a ≤ 18446744073709551615) :
    Calls Try.prog 3 #[.int .u64 (a : Int), .slice v 0 cap] w fun e w' => e = .returned (.bool true) ∧ Below w.heap.size w w' := by
  go_enter Try.func3, Try.ntmps3
  go_wp2_with fail
  refine (alive01 _).mono ?_
  rintro e w1 ⟨rfl, h1⟩
  go_wp2_with fail
  refine (fix_Add_nil _ _ _).mono ?_
  rintro e w' ⟨rfl, rfl⟩
  go_wp2_with fail
  refine (ref_Sum_nil _ _ _).mono ?_
  rintro e w' ⟨rfl, rfl⟩
  go_wp2_with fail
  refine (fix_Sub_nil _ _ _ _ ha).mono ?_
  rintro e w' ⟨rfl, rfl⟩
  go_wp2_with fail
  refine (ref_Less_nil _ _ _ _ ha).mono ?_
  rintro e w' ⟨rfl, rfl⟩
  go_wp2_with fail
  go_ret
  exact ⟨rfl, h1⟩

theorem FixSums_short (a : Nat) (b off cap : Nat) (zs : List Nat) (w : World) (ha : a ≤ 18446744073709551615) (hl : zs.length ≤ 100) (hz : ∀ z ∈ zs, z ≤ 18446744073709551615) (hbl : b < w.heap.size) (hrow : Row w b off zs) :
    Calls Try.prog 3 #[.int .u64 (a : Int), .slice (some ⟨b, off, none⟩) zs.length cap] w fun e w' => e = .returned (.bool true) ∧ Below w.heap.size w w' := by
  have HZ := Lib.hid hz
  have HR := Lib.hid hrow
  clear hz hrow
  have bs := sumS_le zs
  have bl := Nat.le_trans (lessS_le a zs) ha
  go_enter Try.func3, Try.ntmps3
  go_wp2_with fail
  refine (alive01 _).mono ?_
  rintro e w1 ⟨rfl, h1⟩
  have HR1 := Lib.hid (HR.out.below hbl h1)
  go_wp2_with fail
  refine (fix_Add _ _ _ _ _ (by omega) HZ.out HR1.out).mono ?_
  rintro e w' ⟨rfl, rfl⟩
  go_wp2_with fail
  refine (ref_Sum _ _ _ _ _ (by omega) HZ.out HR1.out).mono ?_
  rintro e w' ⟨rfl, rfl⟩
  go_wp2_with fail
  refine (fix_Sub _ _ _ _ _ _ (by omega) (by omega) (by omega) HZ.out HR1.out).mono ?_
  rintro e w' ⟨rfl, rfl⟩
  rw [Int.toNat_natCast]
  go_wp2_with fail
  refine (ref_Less _ _ _ _ _ _ ha (by omega) HZ.out HR1.out).mono ?_
  rintro e w' ⟨rfl, rfl⟩
  go_wp2_with fail
  go_ret
  exact ⟨rfl, h1⟩
end Go.Proofs.Ytjaiffmdoodfaaa
