/- The contract of math/bits.Div64 over this translation. -/
import Derived.Test.YtafmfkgaijnfbaaRowz
import Derived.Shelf.Spec.BitsCarry
import Derived.Test.YtafmfkgaijnfbaaShelf
import Derived.Deep.QuietTactic
import Derived.BigQuiet
import Derived.Deep.DeepCutAuto
import Derived.Deep.CutBlock
set_option linter.unusedVariables false
namespace Go.Proofs.Ytafmfkgaijnfbaa
open Go.RowKit Pl

/-- What holds of the guess and of its rest at the head of each round. -/
def Guess (v1 v0 u n : Nat) (t x : Value) : Prop := ∃ a b : Nat, t = .int .u64 (a : Int) ∧ x = .int .u64 (b : Int) ∧ Dig v1 v0 u n a b
/-- The digit, and the world as it was. -/
def Digit (q : Nat) (w : World) (t : Value) (wx : World) : Prop := t = .int .u64 (q : Int) ∧ w = wx

theorem ret2_u64 {a b c d : Int} (h : a = c) (k : b = d) : Ending.returned (.tuple #[.int .u64 a, .int .u64 b]) = .returned (.tuple #[.int .u64 c, .int .u64 d]) := by rw [h, k]

set_option maxHeartbeats 1000000 in
set_option maxRecDepth 100000 in
theorem div64_core (hi lo y s v v1 v0 u l n1 n0 q r q1 r1 q' r' q0 r0 : Nat) (w : World) (hh : 0 < hi) (hy : hi < y) (hl : lo ≤ 18446744073709551615) (hy' : y ≤ 18446744073709551615)
    (HLZ : Hid (Calls Try.prog 36 #[.int .u64 (y : Int)] w fun e w' => e = .returned (.int .i64 s) ∧ w = w'))
    (s63 : s ≤ 63)
    (e1 : IntKind.u64.wrap ((y : Int) * 2 ^ s) = (v : Int)) (e2 : (v : Int) / 4294967296 = (v1 : Int)) (e3 : bits .and .u64 (v : Int) 4294967295 = (v0 : Int))
    (e4 : bits .or .u64 (IntKind.u64.wrap ((hi : Int) * 2 ^ s)) ((lo : Int) / 2 ^ (64 - s)) = (u : Int)) (e5 : IntKind.u64.wrap ((lo : Int) * 2 ^ s) = (l : Int))
    (e6 : (l : Int) / 4294967296 = (n1 : Int)) (e7 : bits .and .u64 (l : Int) 4294967295 = (n0 : Int)) (e8 : (u : Int) / (v1 : Int) = (q : Int)) (e9 : IntKind.u64.wrap ((u : Int) - IntKind.u64.wrap ((q : Int) * (v1 : Int))) = (r : Int))
    (e10 : IntKind.u64.wrap (IntKind.u64.wrap (IntKind.u64.wrap ((u : Int) * 4294967296) + (n1 : Int)) - IntKind.u64.wrap ((q1 : Int) * (v : Int))) = (r1 : Int))
    (e11 : (r1 : Int) / (v1 : Int) = (q' : Int)) (e12 : IntKind.u64.wrap ((r1 : Int) - IntKind.u64.wrap ((q' : Int) * (v1 : Int))) = (r' : Int))
    (e13 : IntKind.u64.wrap (IntKind.u64.wrap (IntKind.u64.wrap ((r1 : Int) * 4294967296) + (n0 : Int)) - IntKind.u64.wrap ((q0 : Int) * (v : Int))) = (r0 : Int))
    (b1 : 2147483648 ≤ v1) (b1' : v1 < 4294967296) (b0 : v0 < 4294967296) (bv : v < 18446744073709551616) (bu : u < 18446744073709551616) (bl : l < 18446744073709551616) (bn1 : n1 < 4294967296) (bn0 : n0 < 4294967296)
    (br1 : r1 < 18446744073709551616) (br0 : r0 < 18446744073709551616) (bq1 : q1 < 4294967296) (bq0 : q0 < 4294967296)
    (bq : q ≤ 4294967297) (bq' : q' ≤ 4294967297)
    (HU : Hid (u < v1 * 4294967296 + v0)) (HR1 : Hid (r1 < v1 * 4294967296 + v0))
    (HQ1 : Hid (q1 = (u * 4294967296 + n1) / (v1 * 4294967296 + v0))) (HQ0 : Hid (q0 = (r1 * 4294967296 + n0) / (v1 * 4294967296 + v0)))
    (HD1 : Hid (Dig v1 v0 u n1 q r)) (HD0 : Hid (Dig v1 v0 r1 n0 q' r')) :
    Calls Try.prog 35 #[.int .u64 (hi : Int), .int .u64 (lo : Int), .int .u64 (y : Int)] w fun e w' => e = .returned (.tuple #[.int .u64 ((q1 * 4294967296 + q0 : Nat) : Int), .int .u64 ((r0 / 2 ^ s : Nat) : Int)]) ∧ w = w' := by
  go_enter Try.func35, Try.ntmps35
  go_upto_block 0 with (go_at_call 36; refine (HLZ.out).mono ?_; rintro e w' ⟨rfl, rfl⟩)
  clear e1 e2 e3 e4 e5 e6 e7 e8 e9
  go_cut [15] (fun t wx => Digit q1 w t wx)
  case first =>
    go_wp2_with fail
    go_loop [15, 16] (fun t x => Guess v1 v0 u n1 t x) (fun t _ => (intOf t).toNat)
    case atStart => exact ⟨q, r, rfl, rfl, HD1.out⟩
    case round =>
      obtain ⟨a, b, rfl, rfl, hd⟩ := hrel
      have ab := hd.q_le
      have bb := hd.r_lt
      have HDG := Lib.hid hd
      clear hd
      have hra : (4294967296 ≤ b + v1 ∧ decide ((4294967296 : Int) ≤ (b : Int) + (v1 : Int)) = true) ∨ (¬ 4294967296 ≤ b + v1 ∧ decide ((4294967296 : Int) ≤ (b : Int) + (v1 : Int)) = false) := by
        by_cases h : 4294967296 ≤ b + v1
        · exact Or.inl ⟨h, by simp; omega⟩
        · exact Or.inr ⟨h, by simp; omega⟩
      by_cases hq : 4294967296 ≤ a
      · obtain ⟨h1a, _⟩ := dig_step b1 b1' HU.out bn1 HDG.out (Or.inl hq)
        have hq2 : decide ((4294967296 : Int) ≤ (a : Int)) = true := by simp; omega
        rcases hra with ⟨hr, hr2⟩ | ⟨hr, hr2⟩
        · have HB := Lib.hid (dig_break b1 b1' b0 HU.out bn1 HDG.out (Or.inl hq) hr)
          clear hq hr
          go_wp2
          go_meet
          exact ⟨by have x := HB.out; have y := HQ1.out; rw [← y] at x; congr 1; omega, rfl⟩
        · have HB := Lib.hid (dig_next b1 b1' HU.out bn1 HDG.out (Or.inl hq) (by omega))
          clear hq hr
          go_wp2
          go_round
          case rel => exact ⟨a - 1, b + v1, by congr 1; omega, by go_num, HB.out⟩
          case measure => simp [intOf]; omega
      · have hp : a * v0 ≤ 4294967295 * 4294967295 := Nat.mul_le_mul (by omega) (by omega)
        have ep : (a : Int) * (v0 : Int) = ((a * v0 : Nat) : Int) := by simp
        have hq2 : decide ((4294967296 : Int) ≤ (a : Int)) = false := by simp; omega
        have hta : (4294967296 * b + n1 < a * v0 ∧ decide ((4294967296 : Int) * (b : Int) + (n1 : Int) < ((a * v0 : Nat) : Int)) = true) ∨ (¬ 4294967296 * b + n1 < a * v0 ∧ decide ((4294967296 : Int) * (b : Int) + (n1 : Int) < ((a * v0 : Nat) : Int)) = false) := by
          by_cases h : 4294967296 * b + n1 < a * v0
          · exact Or.inl ⟨h, by simp only [decide_eq_true_eq]; omega⟩
          · exact Or.inr ⟨h, by simp only [decide_eq_false_iff_not]; omega⟩
        clear hq
        generalize hpp : a * v0 = p at *
        have HP := Lib.hid hpp
        clear hpp
        rcases hta with ⟨ht, ht2⟩ | ⟨ht, ht2⟩
        · have HT := Lib.hid ht
          obtain ⟨h1a, _⟩ := dig_step b1 b1' HU.out bn1 HDG.out (Or.inr (by rw [HP.out]; exact ht))
          rcases hra with ⟨hr, hr2⟩ | ⟨hr, hr2⟩
          · have HB := Lib.hid (dig_break b1 b1' b0 HU.out bn1 HDG.out (Or.inr (by rw [HP.out]; exact ht)) hr)
            clear hr ht
            go_wp2
            go_meet
            exact ⟨by have x := HB.out; have y := HQ1.out; rw [← y] at x; congr 1; omega, rfl⟩
          · have HB := Lib.hid (dig_next b1 b1' HU.out bn1 HDG.out (Or.inr (by rw [HP.out]; exact ht)) (by omega))
            clear hr ht
            go_wp2
            go_round
            case rel => exact ⟨a - 1, b + v1, by congr 1; omega, by go_num, HB.out⟩
            case measure => simp [intOf]; omega
        · have HB := Lib.hid (dig_done b1 HDG.out (by rw [HP.out]; exact ht))
          clear ht hra
          go_wp2
          go_meet
          exact ⟨by have x := HB.out; have y := HQ1.out; rw [← y] at x; rw [x], rfl⟩
  case rest =>
    obtain ⟨rfl, rfl⟩ := hcut
    go_upto_block 2 with (fail)
    clear e10 e11 e12
    go_cut [18] (fun t wx => Digit q0 w t wx)
    case first =>
      go_wp2_with fail
      go_loop [18, 16] (fun t x => Guess v1 v0 r1 n0 t x) (fun t _ => (intOf t).toNat)
      case atStart => exact ⟨q', r', rfl, rfl, HD0.out⟩
      case round =>
        obtain ⟨a, b, rfl, rfl, hd⟩ := hrel
        have ab := hd.q_le
        have bb := hd.r_lt
        have HDG := Lib.hid hd
        clear hd
        have hra : (4294967296 ≤ b + v1 ∧ decide ((4294967296 : Int) ≤ (b : Int) + (v1 : Int)) = true) ∨ (¬ 4294967296 ≤ b + v1 ∧ decide ((4294967296 : Int) ≤ (b : Int) + (v1 : Int)) = false) := by
          by_cases h : 4294967296 ≤ b + v1
          · exact Or.inl ⟨h, by simp; omega⟩
          · exact Or.inr ⟨h, by simp; omega⟩
        by_cases hq : 4294967296 ≤ a
        · obtain ⟨h1a, _⟩ := dig_step b1 b1' HR1.out bn0 HDG.out (Or.inl hq)
          have hq2 : decide ((4294967296 : Int) ≤ (a : Int)) = true := by simp; omega
          rcases hra with ⟨hr, hr2⟩ | ⟨hr, hr2⟩
          · have HB := Lib.hid (dig_break b1 b1' b0 HR1.out bn0 HDG.out (Or.inl hq) hr)
            clear hq hr
            go_wp2
            go_meet
            exact ⟨by have x := HB.out; have y := HQ0.out; rw [← y] at x; congr 1; omega, rfl⟩
          · have HB := Lib.hid (dig_next b1 b1' HR1.out bn0 HDG.out (Or.inl hq) (by omega))
            clear hq hr
            go_wp2
            go_round
            case rel => exact ⟨a - 1, b + v1, by congr 1; omega, by go_num, HB.out⟩
            case measure => simp [intOf]; omega
        · have hp : a * v0 ≤ 4294967295 * 4294967295 := Nat.mul_le_mul (by omega) (by omega)
          have ep : (a : Int) * (v0 : Int) = ((a * v0 : Nat) : Int) := by simp
          have hq2 : decide ((4294967296 : Int) ≤ (a : Int)) = false := by simp; omega
          have hta : (4294967296 * b + n0 < a * v0 ∧ decide ((4294967296 : Int) * (b : Int) + (n0 : Int) < ((a * v0 : Nat) : Int)) = true) ∨ (¬ 4294967296 * b + n0 < a * v0 ∧ decide ((4294967296 : Int) * (b : Int) + (n0 : Int) < ((a * v0 : Nat) : Int)) = false) := by
            by_cases h : 4294967296 * b + n0 < a * v0
            · exact Or.inl ⟨h, by simp only [decide_eq_true_eq]; omega⟩
            · exact Or.inr ⟨h, by simp only [decide_eq_false_iff_not]; omega⟩
          clear hq
          generalize hpp : a * v0 = p at *
          have HP := Lib.hid hpp
          clear hpp
          rcases hta with ⟨ht, ht2⟩ | ⟨ht, ht2⟩
          · have HT := Lib.hid ht
            obtain ⟨h1a, _⟩ := dig_step b1 b1' HR1.out bn0 HDG.out (Or.inr (by rw [HP.out]; exact ht))
            rcases hra with ⟨hr, hr2⟩ | ⟨hr, hr2⟩
            · have HB := Lib.hid (dig_break b1 b1' b0 HR1.out bn0 HDG.out (Or.inr (by rw [HP.out]; exact ht)) hr)
              clear hr ht
              go_wp2
              go_meet
              exact ⟨by have x := HB.out; have y := HQ0.out; rw [← y] at x; congr 1; omega, rfl⟩
            · have HB := Lib.hid (dig_next b1 b1' HR1.out bn0 HDG.out (Or.inr (by rw [HP.out]; exact ht)) (by omega))
              clear hr ht
              go_wp2
              go_round
              case rel => exact ⟨a - 1, b + v1, by congr 1; omega, by go_num, HB.out⟩
              case measure => simp [intOf]; omega
          · have HB := Lib.hid (dig_done b1 HDG.out (by rw [HP.out]; exact ht))
            clear ht hra
            go_wp2
            go_meet
            exact ⟨by have x := HB.out; have y := HQ0.out; rw [← y] at x; rw [x], rfl⟩
    case rest =>
      obtain ⟨rfl, rfl⟩ := hcut
      go_wp2
      go_ret2
      exact ⟨ret2_u64 (by simp) (by simp), rfl⟩

theorem bits_lz (y : Nat) (w : World) (h0 : y ≠ 0) (h1 : y < 18446744073709551616) :
    Calls Try.prog 36 #[.int .u64 (y : Int)] w fun e w' => e = .returned (.int .i64 (lzN y)) ∧ w = w' := by
  have e := (norm_shift y h0 h1).2.1
  refine (Try.bits_LeadingZeros64 (y : Int) w (by omega) (by omega)).mono ?_
  rintro e' w' ⟨rfl, hw⟩
  rw [Int.toNat_natCast, e]
  exact ⟨rfl, hw.symm⟩

theorem cast_mul_pow (a s : Nat) : (a : Int) * 2 ^ s = ((a * 2 ^ s : Nat) : Int) := by simp
theorem cast_div_pow (a s : Nat) : (a : Int) / 2 ^ s = ((a / 2 ^ s : Nat) : Int) := by simp

theorem wrap_rest (u n q v r : Nat) (h : v * q + r = u * 4294967296 + n) (hr : r < 18446744073709551616) :
    IntKind.u64.wrap (IntKind.u64.wrap (IntKind.u64.wrap ((u : Int) * 4294967296) + (n : Int)) - IntKind.u64.wrap ((q : Int) * (v : Int))) = (r : Int) := by
  have e : (q : Int) * (v : Int) = ((v * q : Nat) : Int) := by rw [Nat.mul_comm]; simp
  rw [e]
  generalize v * q = A at *
  simp only [IntKind.wrap_u64]
  omega

theorem wrap_rhat (u q v1 r : Nat) (h : v1 * q + r = u) (hu : u < 18446744073709551616) :
    IntKind.u64.wrap ((u : Int) - IntKind.u64.wrap ((q : Int) * (v1 : Int))) = (r : Int) := by
  have e : (q : Int) * (v1 : Int) = ((v1 * q : Nat) : Int) := by rw [Nat.mul_comm]; simp
  rw [e]
  generalize v1 * q = A at *
  simp only [IntKind.wrap_u64]
  omega

theorem div64_big (hi lo y : Nat) (w : World) (hh : 0 < hi) (hy : hi < y) (hl : lo ≤ 18446744073709551615) (hy' : y ≤ 18446744073709551615) :
    Calls Try.prog 35 #[.int .u64 (hi : Int), .int .u64 (lo : Int), .int .u64 (y : Int)] w fun e w' => e = .returned (.tuple #[.int .u64 (((hi * 18446744073709551616 + lo) / y : Nat) : Int), .int .u64 (((hi * 18446744073709551616 + lo) % y : Nat) : Int)]) ∧ w = w' := by
  have N := norm_of hi lo y hy (by omega) (by omega)
  have HLZ := Lib.hid (bits_lz y w (by omega) (by omega))
  obtain ⟨D, M⟩ := div_two hi lo y _ _ _ _ N (by omega)
  rw [D, M]
  generalize hu : hi * 2 ^ lzN y + lo / 2 ^ (64 - lzN y) = u at N
  generalize hL : lo * 2 ^ lzN y % 18446744073709551616 = l at N
  generalize hv : y * 2 ^ lzN y = v at N
  generalize lzN y = s at *

  have ev : v = v / 4294967296 * 4294967296 + v % 4294967296 := by omega
  have b1 : 2147483648 ≤ v / 4294967296 := by have := N.v_ge; omega
  have b1' : v / 4294967296 < 4294967296 := by have := N.v_lt; omega
  have b0 : v % 4294967296 < 4294967296 := by omega
  have n1 : l / 4294967296 < 4294967296 := by have := N.l_lt; omega
  have n0 : l % 4294967296 < 4294967296 := by omega
  have hv0 : 0 < v := by omega
  have hU : u < v / 4294967296 * 4294967296 + v % 4294967296 := by rw [← ev]; exact N.u_lt
  have hR1 : (u * 4294967296 + l / 4294967296) % v < v := Nat.mod_lt _ hv0
  have hR0 : ((u * 4294967296 + l / 4294967296) % v * 4294967296 + l % 4294967296) % v < v := Nat.mod_lt _ hv0
  have d1 := dig_start b1 b1' b0 hU n1
  have d0 := dig_start (u := (u * 4294967296 + l / 4294967296) % v) b1 b1' b0 (by rw [← ev]; exact hR1) n0
  have q1 : (u * 4294967296 + l / 4294967296) / v < 4294967296 := by have := quo_lt b1 hU n1; rwa [← ev] at this
  have q0 : ((u * 4294967296 + l / 4294967296) % v * 4294967296 + l % 4294967296) / v < 4294967296 := by
    have := quo_lt (u := (u * 4294967296 + l / 4294967296) % v) b1 (by rw [← ev]; exact hR1) n0
    rwa [← ev] at this
  have r1 := Nat.div_add_mod (u * 4294967296 + l / 4294967296) v
  have r0 := Nat.div_add_mod ((u * 4294967296 + l / 4294967296) % v * 4294967296 + l % 4294967296) v
  have vlt := N.v_lt
  have ult := N.u_lt
  have llt := N.l_lt
  have c1 : (u * 4294967296 + l / 4294967296) / v = (u * 4294967296 + l / 4294967296) / (v / 4294967296 * 4294967296 + v % 4294967296) := by rw [← ev]
  have c0 : ((u * 4294967296 + l / 4294967296) % v * 4294967296 + l % 4294967296) / v = ((u * 4294967296 + l / 4294967296) % v * 4294967296 + l % 4294967296) / (v / 4294967296 * 4294967296 + v % 4294967296) := by rw [← ev]
  have hR1' : (u * 4294967296 + l / 4294967296) % v < v / 4294967296 * 4294967296 + v % 4294967296 := by rw [← ev]; exact hR1
  have l1 : (u * 4294967296 + l / 4294967296) % v < 18446744073709551616 := Nat.lt_trans hR1 vlt
  have l0 : ((u * 4294967296 + l / 4294967296) % v * 4294967296 + l % 4294967296) % v < 18446744073709551616 := Nat.lt_trans hR0 vlt
  have ul : u < 18446744073709551616 := Nat.lt_trans ult vlt
  have g1 := wrap_rest _ _ _ _ _ r1 l1
  have g0 := wrap_rest _ _ _ _ _ r0 l0
  have k1 := wrap_rhat _ _ _ _ (Nat.div_add_mod u (v / 4294967296)) ul
  have k0 := wrap_rhat _ _ _ _ (Nat.div_add_mod ((u * 4294967296 + l / 4294967296) % v) (v / 4294967296)) l1
  refine div64_core hi lo y s v (v / 4294967296) (v % 4294967296) u l (l / 4294967296) (l % 4294967296) (u / (v / 4294967296)) (u % (v / 4294967296))
    ((u * 4294967296 + l / 4294967296) / v) ((u * 4294967296 + l / 4294967296) % v) ((u * 4294967296 + l / 4294967296) % v / (v / 4294967296)) ((u * 4294967296 + l / 4294967296) % v % (v / 4294967296))
    (((u * 4294967296 + l / 4294967296) % v * 4294967296 + l % 4294967296) / v) (((u * 4294967296 + l / 4294967296) % v * 4294967296 + l % 4294967296) % v) w hh hy hl hy' HLZ N.s_le
    ?_ ?_ (Mul64.maskN v N.v_lt) ?_ ?_ ?_ (Mul64.maskN l N.l_lt) ?_ k1 g1 (Int.natCast_ediv _ _).symm k0 g0
    b1 b1' b0 N.v_lt ul N.l_lt n1 n0 l1 l0 q1 q0 d1.q_le d0.q_le (Lib.hid hU) (Lib.hid hR1') (Lib.hid c1) (Lib.hid c0) (Lib.hid d1) (Lib.hid d0)
  · rw [cast_mul_pow, hv, IntKind.wrap_u64]; omega
  · omega
  · rw [cast_mul_pow, cast_div_pow, Mul64.wrapN _ N.hs, bits_or_u64_nat _ _ N.hs (by have := N.low; have h2 : 2 ^ s ≤ 2 ^ 63 := Nat.pow_le_pow_right (by omega) N.s_le; omega), or_add _ _ _ N.low, hu]
  · rw [cast_mul_pow, Mul64.wrapM, hL]
  · omega
  · exact (Int.natCast_ediv _ _).symm


set_option maxHeartbeats 400000 in
theorem div64_small (lo y : Nat) (w : World) (hy : 0 < y) (hl : lo ≤ 18446744073709551615) (hy' : y ≤ 18446744073709551615) :
    Calls Try.prog 35 #[.int .u64 0, .int .u64 (lo : Int), .int .u64 (y : Int)] w fun e w' => e = .returned (.tuple #[.int .u64 ((lo / y : Nat) : Int), .int .u64 ((lo % y : Nat) : Int)]) ∧ Drawn w w' := by
  have HQ : Hid (IntKind.u64.wrap ((lo : Int) / (y : Int)) = ((lo / y : Nat) : Int)) := Lib.hid (by
    rw [← Int.natCast_ediv]
    exact Mul64.wrapN _ (by have := Nat.div_le_self lo y; omega))
  go_enter Try.func35, Try.ntmps35
  go_wp2
  go_quiet (fail)
  go_wp2
  go_ret2
  exact ⟨ret2_u64 (by first | exact HQ.out | simp) (by simp), _, rfl⟩


theorem div64 (hi lo y : Nat) (w : World) (hy : hi < y) (hl : lo ≤ 18446744073709551615) (hy' : y ≤ 18446744073709551615) :
    Calls Try.prog 35 #[.int .u64 (hi : Int), .int .u64 (lo : Int), .int .u64 (y : Int)] w fun e w' => e = .returned (.tuple #[.int .u64 (((hi * 18446744073709551616 + lo) / y : Nat) : Int), .int .u64 (((hi * 18446744073709551616 + lo) % y : Nat) : Int)]) ∧ Drawn w w' := by
  by_cases h : hi = 0
  · subst h
    refine (div64_small lo y w hy hl hy').mono ?_
    rintro e w' ⟨rfl, hw⟩
    exact ⟨ret2_u64 (by simp) (by simp), hw⟩
  · refine (div64_big hi lo y w (by omega) hy hl hy').mono ?_
    rintro e w' ⟨rfl, rfl⟩
    exact ⟨rfl, Drawn.refl _⟩
end Go.Proofs.Ytafmfkgaijnfbaa
