/- CyclePlays over this translation: the walk of the law. -/
import Derived.Test.YtkinoblikilagaaLaw06c
set_option linter.unusedVariables false
namespace Go.Proofs.Ytkinoblikilagaa
open Go.RowKit

def PlayC (W : World) (a m : Nat) (L : List (List Nat)) (k : Nat) (wr : World) : Prop := PairC W wr a m (L.take k) [] ∧ ∀ l ∈ L.take k, l.length ≤ 100

theorem take_more {L : List (List Nat)} {k : Nat} (h : k < L.length) : L.take (k + 1) = L.take k ++ [L.getD k []] := by
  rw [List.take_succ_eq_append_getElem h]
  simp [List.getD_eq_getElem?_getD, h]

set_option maxHeartbeats 2000000 in
set_option maxRecDepth 100000 in
theorem CyclePlays_walk (v : Option Addr) (len cap : Nat) (L : List (List Nat)) (W : World) (hin : InRows W v len L) :
    Calls Try.prog 3 #[.slice v len cap] W fun e w' => e = .returned (.bool true) ∧ Below W.heap.size W w' := by
  obtain ⟨rfl, hmax, hrows⟩ := hin
  have HL := Lib.hid hrows
  clear hrows
  by_cases hlong : 100 < L.length
  · have hd : decide ((100 : Int) < (L.length : Int)) = true := by simp; omega
    clear hlong hmax
    go_enter Try.func3, Try.ntmps3
    go_wp2_with fail
    refine (alive06 W).mono ?_
    rintro e w' ⟨rfl, hb⟩
    have HB := Lib.hid hb
    clear hb
    go_wp2_with fail
    go_ret
    exact ⟨rfl, HB.out⟩
  · have hd : decide ((100 : Int) < (L.length : Int)) = false := by simp; omega
    have hn : L.length ≤ 100 := by omega
    clear hlong
    go_enter Try.func3, Try.ntmps3
    go_wp2_with fail
    refine (cy_New W).mono ?_
    rintro e w1 ⟨rfl, a1, b1⟩
    have A1 := Lib.hid a1
    have B1 := Lib.hid b1
    clear a1 b1
    obtain ⟨a, ha⟩ : ∃ a, W.heap.size = a := ⟨_, rfl⟩
    have HA := Lib.hid ha
    have A1' : Hid (CyAt w1 a ⟨0, 0, 0⟩) := Lib.hid (by rw [← ha]; exact A1.out)
    rw [ha]
    clear ha A1
    go_wp2_with fail
    refine (dc_New w1).mono ?_
    rintro e w2 ⟨m, g, rfl, d2, b2⟩
    have P0 : Hid (PlayC W a m L 0 w2) := Lib.hid ⟨⟨Blk.keep A1'.out b2, by rw [HA.out]; exact Nat.le_refl _, ⟨g, 1, ⟨d2.head, Nat.le_trans B1.out.size d2.bm, Nat.le_trans B1.out.size d2.bg, d2.body⟩⟩, bel_to B1.out b2 B1.out.size⟩, by simp⟩
    clear d2 b2 A1' B1
    go_wp2_with fail
    go_loopw [5] (fun i wr => ∃ k : Nat, i = .int .i64 (k : Int) ∧ k ≤ L.length ∧ PlayC W a m L k wr) (fun i _ => L.length - (intOf i).toNat)
    case atStart => exact ⟨0, rfl, Nat.zero_le _, P0.out⟩
    case round =>
      obtain ⟨k, rfl, hk, hpc, hrw⟩ := hrel
      have P := Lib.hid hpc
      have R := Lib.hid hrw
      clear hpc hrw P0
      by_cases hlt : k < L.length
      · obtain ⟨ad, o, rfl, hbl, hcl⟩ := HL.out (by omega)
        obtain ⟨p, c, x0, hlen, hpn, hnum⟩ := hcl k hlt
        have HX := Lib.hid x0
        have HPn := Lib.hid hpn
        have HNum := Lib.hid hnum
        have x1 := (P.out.2.2.2.cell (p := ⟨ad, o + k, none⟩) hbl).trans x0
        have HT := Lib.hid (take_more hlt)
        have hKl : (L.take k).length = k := by simp; omega
        have HKl := Lib.hid hKl
        clear hcl x0 hpn hnum hKl
        generalize L.getD k [] = row at *
        have i0 : (0 : Int) ≤ (k : Int) := by omega
        have i1 : (k : Int) < (L.length : Int) := by omega
        by_cases hrl : 100 < row.length
        · have he : decide ((100 : Int) < (row.length : Int)) = true := by simp; omega
          clear hrl
          go_wp2_with fail
          refine (alive06 _).mono ?_
          rintro e w' ⟨rfl, hb⟩
          have HB := Lib.hid (P.out.keep hb)
          clear hb
          go_wp2_with fail
          go_ret
          exact ⟨rfl, HB.out.2.2.2⟩
        · have he : decide ((100 : Int) < (row.length : Int)) = false := by simp; omega
          have hrn : row.length ≤ 100 := by omega
          clear hrl
          have C1 := Lib.hid (pair_cPut (c := c) P.out HNum.out (by omega))
          go_wp2_with fail
          refine (C1.out).mono ?_
          rintro e w3 ⟨rfl, q1, q2, q3, q4⟩
          have x1 := (q4.cell (p := ⟨ad, o + k, none⟩) hbl).trans HX.out
          have C2 := Lib.hid (pair_dPut q1 q2 q3 q4 HNum.out HPn.out (by omega) (by rw [HKl.out]; omega))
          clear q1 q2 q3 q4 C1 P
          go_wp2_with fail
          refine (C2.out).mono ?_
          rintro e w4 ⟨rfl, q⟩
          have P4 := Lib.hid q
          clear q C2 x1
          have HRR : Hid (∀ l ∈ L.take k ++ [row], l.length ≤ 1000) := Lib.hid (by
            intro l hl
            rcases List.mem_append.1 hl with c | c
            · have := R.out l c; omega
            · rw [List.mem_singleton.1 c]; omega)
          obtain ⟨bv, hbv⟩ : ∃ bv, bestL (L.take k ++ [row]) = bv := ⟨_, rfl⟩
          have HBv := Lib.hid hbv
          clear hbv
          have C3 := Lib.hid (pair_cBest P4.out)
          rw [HBv.out] at C3
          go_wp2_with fail
          refine (C3.out).mono ?_
          rintro e w5 ⟨rfl, q⟩
          have P5 := Lib.hid q
          clear q C3 P4
          have C4 := Lib.hid (pair_dBest P5.out (by rw [HKl.out]; omega) HRR.out)
          rw [HBv.out] at C4
          go_wp2_with fail
          refine (C4.out).mono ?_
          rintro e w6 ⟨rfl, rfl⟩
          clear C4 HBv
          have C5 := Lib.hid (pair_cNext P5.out (by rw [HKl.out]; omega))
          go_wp2_with fail
          refine (C5.out).mono ?_
          rintro e w7 ⟨rfl, q1, q2, q3, q4⟩
          have C6 := Lib.hid (pair_dNext q1 q2 q3 q4 (by rw [HKl.out]; omega))
          clear q1 q2 q3 q4 C5 P5
          go_wp2_with fail
          refine (C6.out).mono ?_
          rintro e w8 ⟨rfl, q⟩
          have P8 := Lib.hid q
          clear q C6
          have HRR2 : Hid (∀ l ∈ (L.take k ++ [row]) ++ [[]], l.length ≤ 1000) := Lib.hid (by
            intro l hl
            rcases List.mem_append.1 hl with c | c
            · exact HRR.out l c
            · rw [List.mem_singleton.1 c]; simp)
          have HKl2 : Hid ((L.take k ++ [row]).length = k + 1) := Lib.hid (by rw [List.length_append, HKl.out]; rfl)
          obtain ⟨bw, hbw⟩ : ∃ bw, bestL ((L.take k ++ [row]) ++ [[]]) = bw := ⟨_, rfl⟩
          have HBw := Lib.hid hbw
          clear hbw
          have C7 := Lib.hid (pair_cBest P8.out)
          rw [HBw.out] at C7
          go_wp2_with fail
          refine (C7.out).mono ?_
          rintro e w9 ⟨rfl, q⟩
          have P9 := Lib.hid q
          clear q C7 P8
          have C8 := Lib.hid (pair_dBest P9.out (by rw [HKl2.out]; omega) HRR2.out)
          rw [HBw.out] at C8
          go_wp2_with fail
          refine (C8.out).mono ?_
          rintro e w10 ⟨rfl, rfl⟩
          clear C8 HBw
          have C9 := Lib.hid (pair_cCount P9.out)
          rw [HKl2.out] at C9
          go_wp2_with fail
          refine (C9.out).mono ?_
          rintro e w11 ⟨rfl, rfl⟩
          clear C9
          have PN : Hid (PlayC W a m L (k + 1) w9) := Lib.hid ⟨by rw [HT.out]; exact P9.out, by
            rw [HT.out]
            intro l hl
            rcases List.mem_append.1 hl with c | c
            · exact R.out l c
            · rw [List.mem_singleton.1 c]; exact hrn⟩
          clear P9 R
          go_wp2_with fail
          go_roundw
          case rel => exact ⟨k + 1, by go_num, by omega, PN.out⟩
          case measure => simp [intOf]; omega
      · obtain rfl : k = L.length := by omega
        have G := Lib.hid P.out.2.2.2
        clear P R
        go_wp2_with fail
        refine (cy_Put_nil _ _).mono ?_
        rintro e w3 ⟨rfl, rfl⟩
        go_wp2_with fail
        refine (cy_Next_nil _).mono ?_
        rintro e w4 ⟨rfl, rfl⟩
        go_wp2_with fail
        refine (alive06 _).mono ?_
        rintro e w5 ⟨rfl, hb⟩
        have G5 := Lib.hid (bel_to (G.out.alloc G.out.size (.cells #[.int .u64 3] 31)) hb (by simp; have := G.out.size; omega))
        clear hb G
        go_wp2_with fail
        refine (cy_Best_nil _).mono ?_
        rintro e w6 ⟨rfl, rfl⟩
        go_wp2_with fail
        refine (cy_Count_nil _).mono ?_
        rintro e w7 ⟨rfl, rfl⟩
        go_wp2_with fail
        go_ret
        exact ⟨rfl, G5.out⟩
end Go.Proofs.Ytkinoblikilagaa
