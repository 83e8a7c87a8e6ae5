/- Contracts of the document's own answers of layer 1 (goitref01), over this translation: Over (Add, Share lie in R1a). -/
import Derived.Test.YtafmfkgaijnfbaaR1a
import Derived.Test.YtafmfkgaijnfbaaFixB
set_option linter.unusedVariables false
namespace Go.Proofs.Ytafmfkgaijnfbaa
open Go.RowKit Pl

theorem ref_Over (x y z : Nat) (w : World) (hx : x ≤ 18446744073709551615) (hy : y ≤ 18446744073709551615) (hz : z ≤ 18446744073709551615) :
    Calls Try.prog 27 #[.int .u64 (x : Int), .int .u64 (y : Int), .int .u64 (z : Int)] w fun e w' => e = .returned (.int .u64 ((overS x y z : Nat) : Int)) ∧ w = w' := by
  have HM := Lib.hid (ref_product x y w hx hy)
  have hlo : x * y % 18446744073709551616 ≤ 18446744073709551615 := by omega
  have HP : Hid (x * y / 18446744073709551616 * 18446744073709551616 + x * y % 18446744073709551616 = x * y) := Lib.hid (by omega)
  have HO := Lib.hid (over_eq x y z)
  by_cases h : z ≤ x * y / 18446744073709551616
  · have HS := Lib.hid (share_top x y z h)
    have HR : Hid (restS x y z = 0) := Lib.hid (by unfold restS; rw [if_pos h])
    generalize x * y / 18446744073709551616 = hi at *
    generalize x * y % 18446744073709551616 = lo at *
    go_enter Try.func27, Try.ntmps27
    go_wp2_with (go_at_call 23; refine (HM.out).mono ?_; rintro e w' ⟨rfl, rfl⟩)
    go_ret
    exact ⟨ret_u64 (by rw [HO.out, HR.out, if_pos rfl, HS.out]; rfl), rfl⟩
  · have HS := Lib.hid (share_in x y z (by omega))
    have HR : Hid (restS x y z = x * y % z) := Lib.hid (by unfold restS; rw [if_neg h])
    generalize x * y / 18446744073709551616 = hi at *
    generalize x * y % 18446744073709551616 = lo at *
    have hd := ref_divide hi lo z w (by omega) hlo hz
    rw [HP.out, ← HS.out, ← HR.out] at hd
    have HD := Lib.hid hd
    have bs := shareS_le x y z
    clear hd HS HR
    generalize shareS x y z = q at *
    generalize restS x y z = r at *
    by_cases h0 : r = 0
    · subst h0
      go_enter Try.func27, Try.ntmps27
      go_wp2_with (first | (go_at_call 23; refine (HM.out).mono ?_; rintro e w' ⟨rfl, rfl⟩) | (go_at_call 32; refine (HD.out).mono ?_; rintro e w' ⟨rfl, rfl⟩))
      go_ret
      exact ⟨ret_u64 (by rw [HO.out]; simp), rfl⟩
    · have h1 : 0 < r := by omega
      have HN := Lib.hid h0
      have HA := Lib.hid (fun w => ref_Add q 1 w bs (by omega))
      clear h0
      go_enter Try.func27, Try.ntmps27
      go_wp2_with (first | (go_at_call 23; refine (HM.out).mono ?_; rintro e w' ⟨rfl, rfl⟩) | (go_at_call 32; refine (HD.out).mono ?_; rintro e w' ⟨rfl, rfl⟩) | (go_at_call 21; refine (HA.out _).mono ?_; rintro e w' ⟨rfl, rfl⟩))
      go_ret
      exact ⟨ret_u64 (by rw [HO.out, if_neg HN.out]), rfl⟩
end Go.Proofs.Ytafmfkgaijnfbaa
