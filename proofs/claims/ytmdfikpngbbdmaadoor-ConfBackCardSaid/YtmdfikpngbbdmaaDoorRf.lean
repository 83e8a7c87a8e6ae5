/- The document's answers for setups, over this translation: whether one may be; a number's figures. -/
import Derived.Test.YtmdfikpngbbdmaaDoorPa
import Derived.Laws.IdiomStrings
set_option linter.unusedVariables false
namespace Go.Proofs.YtmdfikpngbbdmaaDoor
open Go.RowKit Go.Shelf Cf

theorem ref_in (n lo hi : Nat) (w : World) : Calls Tryd.prog 29 #[.int .u64 (n : Int), .int .u64 (lo : Int), .int .u64 (hi : Int)] w fun e w' => e = .returned (.bool (decide (lo ≤ n ∧ n ≤ hi))) ∧ w' = w := by
  by_cases h1 : lo ≤ n
  · have d1 : decide (lo ≤ n) = true := by simpa using h1
    by_cases h2 : n ≤ hi
    · have d2 : decide (n ≤ hi) = true := by simpa using h2
      go_enter Tryd.func29, Tryd.ntmps29
      go_wp2
      go_ret
      exact ⟨by simp [h1, h2], rfl⟩
    · have d2 : decide (n ≤ hi) = false := by simpa using h2
      go_enter Tryd.func29, Tryd.ntmps29
      go_wp2
      go_ret
      exact ⟨by simp [h2], rfl⟩
  · have d1 : decide (lo ≤ n) = false := by simpa using h1
    go_enter Tryd.func29, Tryd.ntmps29
    go_wp2
    go_ret
    exact ⟨by simp [h1], rfl⟩

theorem right_and (c : Setup) : rightC c = (fits c 0 && (fits c 1 && (fits c 2 && (fits c 3 && (fits c 4 && fits c 5))))) := by
  simp [rightC, all6]

set_option maxRecDepth 100000 in
set_option maxHeartbeats 1000000 in
theorem ref_Right (c : Setup) (w : World) :
    Calls Tryd.prog 17 #[.agg (ccells c)] w fun e w' => e = .returned (.bool (rightC c)) ∧ Below w.heap.size w w' := by
  have h0 : ∀ w', Calls Tryd.prog 29 #[.int .u64 (c 0 : Int), .int .u64 1, .int .u64 65535] w' fun e w'' => e = .returned (.bool (fits c 0)) ∧ w'' = w' := fun w' => ref_in (c 0) 1 65535 w'
  have h1 : ∀ w', Calls Tryd.prog 29 #[.int .u64 (c 1 : Int), .int .u64 4, .int .u64 1000] w' fun e w'' => e = .returned (.bool (fits c 1)) ∧ w'' = w' := fun w' => ref_in (c 1) 4 1000 w'
  have h2 : ∀ w', Calls Tryd.prog 29 #[.int .u64 (c 2 : Int), .int .u64 1, .int .u64 100] w' fun e w'' => e = .returned (.bool (fits c 2)) ∧ w'' = w' := fun w' => ref_in (c 2) 1 100 w'
  have h3 : ∀ w', Calls Tryd.prog 29 #[.int .u64 (c 3 : Int), .int .u64 1, .int .u64 1099511627776] w' fun e w'' => e = .returned (.bool (fits c 3)) ∧ w'' = w' := fun w' => ref_in (c 3) 1 1099511627776 w'
  have h4 : ∀ w', Calls Tryd.prog 29 #[.int .u64 (c 4 : Int), .int .u64 1, .int .u64 1099511627776] w' fun e w'' => e = .returned (.bool (fits c 4)) ∧ w'' = w' := fun w' => ref_in (c 4) 1 1099511627776 w'
  have h5 : decide ((c 5 : Int) ≤ 1000) = fits c 5 := by
    unfold fits
    rw [show least 5 = 0 from rfl, show most 5 = 1000 from rfl]
    by_cases h : c 5 ≤ 1000 <;> simp [h] <;> omega
  have H0 := Lib.hid h0
  have H1 := Lib.hid h1
  have H2 := Lib.hid h2
  have H3 := Lib.hid h3
  have H4 := Lib.hid h4
  rw [right_and]
  clear h0 h1 h2 h3 h4
  generalize fits c 0 = b0 at *
  generalize fits c 1 = b1 at *
  generalize fits c 2 = b2 at *
  generalize fits c 3 = b3 at *
  generalize fits c 4 = b4 at *
  generalize fits c 5 = b5 at *
  simp only [ccells]
  go_enter Tryd.func17, Tryd.ntmps17
  go_wp2_with fail
  refine (H0.out _).mono ?_
  rintro e w1 ⟨rfl, rfl⟩
  cases b0 with
  | false =>
    go_wp2_with fail
    go_ret
    exact ⟨rfl, (Below.refl _ _).alloc (Nat.le_refl _) _⟩
  | true =>
    go_wp2_with fail
    refine (H1.out _).mono ?_
    rintro e w1 ⟨rfl, rfl⟩
    cases b1 with
    | false =>
      go_wp2_with fail
      go_ret
      exact ⟨rfl, (Below.refl _ _).alloc (Nat.le_refl _) _⟩
    | true =>
      go_wp2_with fail
      refine (H2.out _).mono ?_
      rintro e w1 ⟨rfl, rfl⟩
      cases b2 with
      | false =>
        go_wp2_with fail
        go_ret
        exact ⟨rfl, (Below.refl _ _).alloc (Nat.le_refl _) _⟩
      | true =>
        go_wp2_with fail
        refine (H3.out _).mono ?_
        rintro e w1 ⟨rfl, rfl⟩
        cases b3 with
        | false =>
          go_wp2_with fail
          go_ret
          exact ⟨rfl, (Below.refl _ _).alloc (Nat.le_refl _) _⟩
        | true =>
          go_wp2_with fail
          refine (H4.out _).mono ?_
          rintro e w1 ⟨rfl, rfl⟩
          cases b4 with
          | false =>
            go_wp2_with fail
            go_ret
            exact ⟨rfl, (Below.refl _ _).alloc (Nat.le_refl _) _⟩
          | true =>
            cases b5 with
            | false =>
              go_wp2_with fail
              go_ret
              exact ⟨by simp_all, (Below.refl _ _).alloc (Nat.le_refl _) _⟩
            | true =>
              go_wp2_with fail
              go_ret
              exact ⟨by simp_all, (Below.refl _ _).alloc (Nat.le_refl _) _⟩

theorem ba_app (a b : List UInt8) : ba a ++ ba b = ba (a ++ b) := by
  apply WideShapes.bytes_inj
  simp [ba]
def digB (n : Nat) : UInt8 := UInt8.ofNat (48 + n % 10)
theorem digB_val (n : Nat) : ((digB n).toNat : Int) = 48 + (n : Int) % 10 := by
  unfold digB; rw [dig_of _ (by omega)]; omega

set_option maxRecDepth 100000 in
set_option maxHeartbeats 1000000 in
theorem ref_Figures (n : Nat) : n ≤ 18446744073709551615 → ∀ w : World, Calls Tryd.prog 18 #[.int .u64 (n : Int)] w fun e w' => e = .returned (.string (ba (Lib.decDigits n))) ∧ Below w.heap.size w w' := by
  induction n using Nat.strongRecOn with
  | _ n ih =>
    intro hn w
    have HV := Lib.hid (digB_val n)
    have hcv : (convert 57 9 (.slice (some ⟨w.heap.size, 0, none⟩) 1 1)).run Tryd.prog (w.alloc (.cells #[.int .u8 ((digB n).toNat : Int)] 5)) = .ok (.string (ba [digB n])) (w.alloc (.cells #[.int .u8 ((digB n).toNat : Int)] 5)) :=
      run_convert_bytes_back (P := Tryd.prog) _ 57 9 5 ⟨w.heap.size, 0, none⟩ 1 [digB n] Tryd.underlying57 Tryd.underlying5 Tryd.underlying9 (fun j hj => by
        obtain rfl : j = 0 := by simpa using hj
        rw [Lib.add_plain, World.cell?_alloc_new]
        rfl)
    have hw8 : IntKind.u8.wrap (48 + (n : Int) % 10) = ((digB n).toNat : Int) := by
      rw [HV.out]; rw [IntKind.wrap_u8]; omega
    by_cases h10 : n < 10
    · have d : decide ((10 : Int) ≤ (n : Int)) = false := by simp; omega
      have HE : Hid (Lib.decDigits n = [digB n]) := by
        show Lib.decDigits n = [digB n]
        rw [dec_small h10]; unfold digB; rw [Nat.mod_eq_of_lt h10]
      go_enter Tryd.func18, Tryd.ntmps18
      go_wp2_with fail
      go_ret
      exact ⟨by rw [HE.out]; rfl, (Below.refl _ _).alloc (Nat.le_refl _) _⟩
    · have d : decide ((10 : Int) ≤ (n : Int)) = true := by simp; omega
      have HE : Hid (Lib.decDigits n = Lib.decDigits (n / 10) ++ [digB n]) := dec_big h10
      have HI := Lib.hid (fun w' => ih (n / 10) (by omega) (by omega) w')
      have hz : (ba (Lib.decDigits (n / 10))).size ≤ 20 := by rw [ba_size]; exact dec_len_le (by omega)
      have hz1 : (ba [digB n]).size = 1 := by rw [ba_size]; rfl
      rw [HE.out, ← ba_app]
      generalize ba (Lib.decDigits (n / 10)) = D at *
      generalize hN : n / 10 = m at *
      have hdiv : (n : Int) / 10 = (m : Int) := by omega
      have HD := Lib.hid hdiv
      clear ih hN hdiv h10 HE
      go_enter Tryd.func18, Tryd.ntmps18
      go_wp2_with fail
      rw [HD.out]
      refine (HI.out _).mono ?_
      rintro e w1 ⟨rfl, hb⟩
      have G := Lib.hid (bel_to ((Below.refl w.heap.size w).alloc (Nat.le_refl _) _) hb (by simp))
      clear hb
      go_wp2_with fail
      go_ret
      exact ⟨rfl, G.out⟩
end Go.Proofs.YtmdfikpngbbdmaaDoor
