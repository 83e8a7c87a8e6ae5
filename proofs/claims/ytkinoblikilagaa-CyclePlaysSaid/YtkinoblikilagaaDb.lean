/- Contracts of the document's own cycle filter (goitref06) over this translation: Best. -/
import Derived.Test.YtkinoblikilagaaDc
set_option linter.unusedVariables false
namespace Go.Proofs.Ytkinoblikilagaa
open Go.RowKit

theorem Rows6.row {w : World} {L : List (List Nat)} {arr : Array Value} (h : Rows6 w L arr) {i : Nat} (hi : i < L.length) : ∃ p c, arr[i]? = some (.slice p (L.getD i []).length c) ∧ RowN w p c (L.getD i []) := h i hi

/-- How far Best has come. -/
def bestTo (L : List (List Nat)) (i : Nat) : Nat := mxs 0 ((L.take i).drop (L.length - 2)).flatten
theorem bestTo_start (L : List (List Nat)) : bestTo L (L.length - 2) = 0 := by
  unfold bestTo
  rw [List.drop_of_length_le (by simp)]
  rfl
theorem bestTo_next (L : List (List Nat)) {i : Nat} (h0 : L.length - 2 ≤ i) (h : i < L.length) : bestTo L (i + 1) = mxs (bestTo L i) (L.getD i []) := by
  unfold bestTo
  rw [List.take_succ_eq_append_getElem h, List.drop_append_of_le_length (by simp; omega), List.flatten_append, mxs_app]
  simp [List.getD_eq_getElem?_getD, h]
theorem bestTo_end (L : List (List Nat)) : bestTo L L.length = bestL L := by
  unfold bestTo bestL; rw [List.take_length]

set_option maxHeartbeats 2000000 in
theorem dc_Best (B m g cap : Nat) (L : List (List Nat)) (w : World) (h : DcAt w B m g cap L) (hn : L.length ≤ 1000) (hr : ∀ l ∈ L, l.length ≤ 1000) (hp : 0 < L.length) :
    Calls Try.prog 11 #[.pointer (some ⟨m, 0, none⟩)] w fun e w' => e = .returned (.int .u64 ((bestL L : Nat) : Int)) ∧ w = w' := by
  obtain ⟨arr, b1, b2, b3, b4, b5⟩ := h.body
  have h0 := h.head.cell (i := 0) (v := .slice (some ⟨g, 0, none⟩) L.length cap) rfl
  have HB1 := Lib.hid b1
  have HB5 := Lib.hid b5
  have HRL := Lib.hid hr
  clear h b1 b2 b3 b4 b5 hr
  obtain ⟨s0, hs0⟩ : ∃ s0 : Nat, s0 = L.length - 2 := ⟨_, rfl⟩
  have HS := Lib.hid hs0
  have e0 : (if (L.length : Int) - 2 < 0 then (0 : Int) else (L.length : Int) - 2) = (s0 : Int) := by split <;> omega
  clear hs0
  go_enter Try.func11, Try.ntmps11
  go_wp2_with fail
  go_loopw [3, 4] (fun bv iv wr => ∃ i : Nat, iv = .int .i64 (i : Int) ∧ bv = .int .u64 ((bestTo L i : Nat) : Int) ∧ L.length - 2 ≤ i ∧ i ≤ L.length ∧ wr = w) (fun _ iv _ => L.length - (intOf iv).toNat)
  case atStart => exact ⟨s0, rfl, by rw [HS.out, bestTo_start]; rfl, by rw [HS.out]; exact Nat.le_refl _, by rw [HS.out]; omega, rfl⟩
  case round =>
    obtain ⟨i, rfl, rfl, hi0, hi, rfl⟩ := hrel
    by_cases hlt : i < L.length
    · obtain ⟨p, c, e1, r1⟩ := HB5.out.row hlt
      have HR1 := Lib.hid r1
      have g0 := HB1.out.cell (i := i) e1
      have HN := Lib.hid (bestTo_next L hi0 hlt)
      have hrl : (L.getD i []).length ≤ 1000 := HRL.out _ (by simp [List.getD_eq_getElem?_getD, hlt])
      clear e1 r1
      generalize L.getD i [] = row at *
      obtain ⟨b0, hb0⟩ : ∃ b0, bestTo L i = b0 := ⟨_, rfl⟩
      rw [hb0] at HN ⊢
      clear hb0
      have j0 : (0 : Int) ≤ (i : Int) := by omega
      have j1 : (i : Int) < (L.length : Int) := by omega
      go_wp2_with fail
      go_loopw [3, 5] (fun bv kv wq => ∃ k : Nat, kv = .int .i64 (k : Int) ∧ bv = .int .u64 ((mxs b0 (row.take k) : Nat) : Int) ∧ k ≤ row.length ∧ wq = wr) (fun _ kv _ => row.length - (intOf kv).toNat)
      case atStart => exact ⟨0, rfl, rfl, Nat.zero_le _, rfl⟩
      case round =>
        obtain ⟨k, rfl, rfl, hk, rfl⟩ := hrel
        by_cases hkl : k < row.length
        · obtain ⟨gb, cs, rfl, hblk, hcs⟩ := HR1.out.2 (by omega)
          have x0 := hblk.cell (hcs k hkl)
          unfold ncell at x0
          have HM := Lib.hid (mxs_take b0 hkl)
          clear hcs hblk
          generalize row.getD k 0 = x at *
          obtain ⟨z, hz⟩ : ∃ z, mxs b0 (row.take k) = z := ⟨_, rfl⟩
          rw [hz] at HM ⊢
          clear hz
          have HI : Hid ((if z < x then (x : Int) else (z : Int)) = ((mxs b0 (row.take (k + 1)) : Nat) : Int)) := Lib.hid (by rw [HM.out]; split <;> omega)
          have k0 : (0 : Int) ≤ (k : Int) := by omega
          have k1 : (k : Int) < (row.length : Int) := by omega
          go_wp2_with fail
          rw [HI.out]
          go_roundw
          case rel => exact ⟨k + 1, by go_num, rfl, by omega, trivial⟩
          case measure => simp [intOf]; omega
        · obtain rfl : k = row.length := by omega
          rw [List.take_length, ← HN.out]
          go_wp2_with fail
          go_roundw
          case rel => exact ⟨i + 1, by go_num, rfl, by omega, by omega, trivial⟩
          case measure => simp [intOf]; omega
    · obtain rfl : i = L.length := by omega
      go_wp2_with fail
      go_ret
      first | exact ⟨rfl, rfl⟩ | exact ⟨by rw [bestTo_end]; rfl, rfl⟩ | trace_state
end Go.Proofs.Ytkinoblikilagaa
