/- Contracts of the document's own answers of layer 1 (goitref01), over this translation: Add, Share, Over. -/
import Derived.Test.YtokigijneengkaaDoorRef01
import Derived.Test.YtokigijneengkaaDoorFixB
set_option linter.unusedVariables false
namespace Go.Proofs.YtokigijneengkaaDoor
open Go.RowKit Pl

theorem ref_Add (a b : Nat) (w : World) (ha : a ≤ 18446744073709551615) (hb : b ≤ 18446744073709551615) :
    Calls Tryd.prog 31 #[.int .u64 (a : Int), .int .u64 (b : Int)] w fun e w' => e = .returned (.int .u64 ((addS a b : Nat) : Int)) ∧ w = w' := by
  by_cases h : 18446744073709551615 < a + b
  · have t : decide ((18446744073709551615 : Int) - (b : Int) < (a : Int)) = true := decide_eq_true (by omega)
    have HE : Hid (addS a b = 18446744073709551615) := Lib.hid (by unfold addS; omega)
    clear h
    go_enter Tryd.func31, Tryd.ntmps31
    go_wp2
    go_ret
    exact ⟨ret_u64 (by rw [HE.out]; rfl), rfl⟩
  · have t : decide ((18446744073709551615 : Int) - (b : Int) < (a : Int)) = false := decide_eq_false (by omega)
    have HE : Hid (addS a b = a + b) := Lib.hid (by unfold addS; omega)
    have h' : a + b ≤ 18446744073709551615 := by omega
    clear h
    go_enter Tryd.func31, Tryd.ntmps31
    go_wp2
    go_ret
    exact ⟨ret_u64 (by rw [HE.out]; simp), rfl⟩

theorem ref_Share (x y z : Nat) (w : World) (hx : x ≤ 18446744073709551615) (hy : y ≤ 18446744073709551615) (hz : z ≤ 18446744073709551615) :
    Calls Tryd.prog 22 #[.int .u64 (x : Int), .int .u64 (y : Int), .int .u64 (z : Int)] w fun e w' => e = .returned (.int .u64 ((shareS x y z : Nat) : Int)) ∧ w = w' := by
  have HM := Lib.hid (ref_product x y w hx hy)
  have hlo : x * y % 18446744073709551616 ≤ 18446744073709551615 := by omega
  have HP : Hid (x * y / 18446744073709551616 * 18446744073709551616 + x * y % 18446744073709551616 = x * y) := Lib.hid (by omega)
  by_cases h : z ≤ x * y / 18446744073709551616
  · have HS := Lib.hid (share_top x y z h)
    generalize x * y / 18446744073709551616 = hi at *
    generalize x * y % 18446744073709551616 = lo at *
    go_enter Tryd.func22, Tryd.ntmps22
    go_wp2_with (go_at_call 28; refine (HM.out).mono ?_; rintro e w' ⟨rfl, rfl⟩)
    go_ret
    exact ⟨ret_u64 (by rw [HS.out]; rfl), rfl⟩
  · have HS := Lib.hid (share_in x y z (by omega))
    generalize x * y / 18446744073709551616 = hi at *
    generalize x * y % 18446744073709551616 = lo at *
    have hd := ref_divide hi lo z w (by omega) hlo hz
    rw [HP.out, ← HS.out] at hd
    have HD := Lib.hid hd
    clear hd HS
    generalize shareS x y z = q at *
    generalize x * y % z = r at *
    go_enter Tryd.func22, Tryd.ntmps22
    go_wp2_with (first | (go_at_call 28; refine (HM.out).mono ?_; rintro e w' ⟨rfl, rfl⟩) | (go_at_call 29; refine (HD.out).mono ?_; rintro e w' ⟨rfl, rfl⟩))
    go_ret
    exact ⟨rfl, rfl⟩

theorem ref_Over (x y z : Nat) (w : World) (hx : x ≤ 18446744073709551615) (hy : y ≤ 18446744073709551615) (hz : z ≤ 18446744073709551615) :
    Calls Tryd.prog 25 #[.int .u64 (x : Int), .int .u64 (y : Int), .int .u64 (z : Int)] w fun e w' => e = .returned (.int .u64 ((overS x y z : Nat) : Int)) ∧ w = w' := by
  have HM := Lib.hid (ref_product x y w hx hy)
  have hlo : x * y % 18446744073709551616 ≤ 18446744073709551615 := by omega
  have HP : Hid (x * y / 18446744073709551616 * 18446744073709551616 + x * y % 18446744073709551616 = x * y) := Lib.hid (by omega)
  have HO := Lib.hid (over_eq x y z)
  by_cases h : z ≤ x * y / 18446744073709551616
  · have HS := Lib.hid (share_top x y z h)
    have HR : Hid (restS x y z = 0) := Lib.hid (by unfold restS; rw [if_pos h])
    generalize x * y / 18446744073709551616 = hi at *
    generalize x * y % 18446744073709551616 = lo at *
    go_enter Tryd.func25, Tryd.ntmps25
    go_wp2_with (go_at_call 28; refine (HM.out).mono ?_; rintro e w' ⟨rfl, rfl⟩)
    go_ret
    exact ⟨ret_u64 (by rw [HO.out, HR.out, if_pos rfl, HS.out]; rfl), rfl⟩
  · have HS := Lib.hid (share_in x y z (by omega))
    have HR : Hid (restS x y z = x * y % z) := Lib.hid (by unfold restS; rw [if_neg h])
    generalize x * y / 18446744073709551616 = hi at *
    generalize x * y % 18446744073709551616 = lo at *
    have hd := ref_divide hi lo z w (by omega) hlo hz
    rw [HP.out, ← HS.out, ← HR.out] at hd
    have HD := Lib.hid hd
    have bs := shareS_le x y z
    clear hd HS HR
    generalize shareS x y z = q at *
    generalize restS x y z = r at *
    by_cases h0 : r = 0
    · subst h0
      go_enter Tryd.func25, Tryd.ntmps25
      go_wp2_with (first | (go_at_call 28; refine (HM.out).mono ?_; rintro e w' ⟨rfl, rfl⟩) | (go_at_call 29; refine (HD.out).mono ?_; rintro e w' ⟨rfl, rfl⟩))
      go_ret
      exact ⟨ret_u64 (by rw [HO.out]; simp), rfl⟩
    · have h1 : 0 < r := by omega
      have HN := Lib.hid h0
      have HA := Lib.hid (fun w => ref_Add q 1 w bs (by omega))
      clear h0
      go_enter Tryd.func25, Tryd.ntmps25
      go_wp2_with (first | (go_at_call 28; refine (HM.out).mono ?_; rintro e w' ⟨rfl, rfl⟩) | (go_at_call 29; refine (HD.out).mono ?_; rintro e w' ⟨rfl, rfl⟩) | (go_at_call 31; refine (HA.out _).mono ?_; rintro e w' ⟨rfl, rfl⟩))
      go_ret
      exact ⟨ret_u64 (by rw [HO.out, if_neg HN.out]), rfl⟩
end Go.Proofs.YtokigijneengkaaDoor
