/- Contracts of the document's own answers of layer 12 (goitref12), over this translation. -/
import Derived.Test.YtokigijneengkaaDoorGc
import Derived.Test.YtokigijneengkaaDoorR1s
set_option linter.unusedVariables false
namespace Go.Proofs.YtokigijneengkaaDoor
open Go.RowKit Go.Maps Pl

theorem rg_Right (s : Int) (w : World) :
    Calls Tryd.prog 8 #[.int .i64 s] w fun e w' => e = .returned (.bool (decide (stG s < 7))) ∧ w = w' := by
  by_cases h0 : 0 ≤ s
  · by_cases h1 : s ≤ 6
    · rw [decide_eq_true (show stG s < 7 by unfold stG; rw [if_pos (by omega)]; omega)]
      go_enter Tryd.func8, Tryd.ntmps8
      go_wp2
      go_ret
      exact ⟨rfl, rfl⟩
    · rw [decide_eq_false (show ¬ stG s < 7 by unfold stG; rw [if_neg (by omega)]; omega)]
      go_enter Tryd.func8, Tryd.ntmps8
      go_wp2
      go_ret
      exact ⟨rfl, rfl⟩
  · rw [decide_eq_false (show ¬ stG s < 7 by unfold stG; rw [if_neg (by omega)]; omega)]
    go_enter Tryd.func8, Tryd.ntmps8
    go_wp2
    go_ret
    exact ⟨rfl, rfl⟩

def nmCells : Array Value := #[.string (nmB 0), .string (nmB 1), .string (nmB 2), .string (nmB 3), .string (nmB 4), .string (nmB 5), .string (nmB 6)]
def paceCells : Array Value := #[.int .u64 277, .int .u64 36, .int .u64 75, .int .u64 100, .int .u64 100, .int .u64 125, .int .u64 100]
def windowCells : Array Value := #[.int .u64 200, .int .u64 200, .int .u64 200, .int .u64 200, .int .u64 200, .int .u64 225, .int .u64 50]
theorem nmCells_at : ∀ k, k < 7 → nmCells[k]? = some (.string (nmB k)) := seven rfl rfl rfl rfl rfl rfl rfl
theorem paceCells_at : ∀ k, k < 7 → paceCells[k]? = some (.int .u64 (rateG k : Int)) := seven rfl rfl rfl rfl rfl rfl rfl
theorem windowCells_at : ∀ k, k < 7 → windowCells[k]? = some (.int .u64 (flightG k : Int)) := seven rfl rfl rfl rfl rfl rfl rfl

theorem rg_Names (w : World) :
    Calls Tryd.prog 20 #[] w fun e w' => e = .returned (.slice (some ⟨w.heap.size, 0, none⟩) 7 7) ∧ w.alloc (.cells nmCells 9) = w' := by
  go_enter Tryd.func20, Tryd.ntmps20
  go_wp2
  go_ret
  exact ⟨rfl, rfl⟩
theorem rg_paces (w : World) :
    Calls Tryd.prog 23 #[] w fun e w' => e = .returned (.slice (some ⟨w.heap.size, 0, none⟩) 7 7) ∧ w.alloc (.cells paceCells 23) = w' := by
  go_enter Tryd.func23, Tryd.ntmps23
  go_wp2
  go_ret
  exact ⟨rfl, rfl⟩
theorem rg_windows (w : World) :
    Calls Tryd.prog 26 #[] w fun e w' => e = .returned (.slice (some ⟨w.heap.size, 0, none⟩) 7 7) ∧ w.alloc (.cells windowCells 23) = w' := by
  go_enter Tryd.func26, Tryd.ntmps26
  go_wp2
  go_ret
  exact ⟨rfl, rfl⟩

theorem rg_Name (s : Int) (w : World) :
    Calls Tryd.prog 10 #[.int .i64 s] w fun e w' => e = .returned (.string (nmB (stG s))) ∧ Below w.heap.size w w' := by
  have HR := Lib.hid (rg_Right s w)
  rcases stG_cases s with ⟨k, hk, rfl⟩ | h
  · rw [stG_in k hk] at *
    rw [decide_eq_true hk] at HR
    have c0 := (Blk.new w 9 nmCells).cell (nmCells_at k hk)
    have i0 : (0 : Int) ≤ (k : Int) := by omega
    have i1 : (k : Int) < 7 := by omega
    have HB := Lib.hid ((Below.refl w.heap.size w).alloc (Nat.le_refl _) (.cells nmCells 9))
    have HN := Lib.hid (rg_Names w)
    generalize nmB k = b at *
    generalize nmCells = cs at *
    clear hk
    go_enter Tryd.func10, Tryd.ntmps10
    go_wp2_with (first
      | (go_at_call 8; refine (HR.out).mono ?_; rintro e w' ⟨rfl, rfl⟩)
      | (go_at_call 20; refine (HN.out).mono ?_; rintro e w' ⟨rfl, rfl⟩))
    go_ret
    exact ⟨rfl, HB.out⟩
  · rw [stG_out s h] at *
    rw [show decide (7 < 7) = false from rfl] at HR
    clear h
    go_enter Tryd.func10, Tryd.ntmps10
    go_wp2_with (first
      | (go_at_call 8; refine (HR.out).mono ?_; rintro e w' ⟨rfl, rfl⟩))
    go_ret
    exact ⟨rfl, Below.refl _ _⟩

theorem rg_Pace (s : Int) (x : Nat) (hx : x ≤ 18446744073709551615) (w : World) :
    Calls Tryd.prog 12 #[.int .i64 s, .int .u64 (x : Int)] w fun e w' => e = .returned (.int .u64 (paceG (stG s) x : Int)) ∧ Below w.heap.size w w' := by
  have HR := Lib.hid (rg_Right s w)
  rcases stG_cases s with ⟨k, hk, rfl⟩ | h
  · rw [stG_in k hk] at *
    rw [decide_eq_true hk] at HR
    have c0 := (Blk.new w 23 paceCells).cell (paceCells_at k hk)
    have i0 : (0 : Int) ≤ (k : Int) := by omega
    have i1 : (k : Int) < 7 := by omega
    have HB := Lib.hid ((Below.refl w.heap.size w).alloc (Nat.le_refl _) (.cells paceCells 23))
    have HN := Lib.hid (rg_paces w)
    have ha := rateG_le k
    have HS := Lib.hid (fun w => ref_Share x (rateG k) 100 w hx (by omega) (by omega))
    have HE : Hid (paceG k x = shareS x (rateG k) 100) := Lib.hid rfl
    generalize rateG k = a at *
    generalize paceG k x = p at *
    generalize shareS x a 100 = q at *
    generalize paceCells = cs at *
    clear hk ha hx
    go_enter Tryd.func12, Tryd.ntmps12
    go_wp2_with (first
      | (go_at_call 8; refine (HR.out).mono ?_; rintro e w' ⟨rfl, rfl⟩)
      | (go_at_call 23; refine (HN.out).mono ?_; rintro e w' ⟨rfl, rfl⟩)
      | (go_at_call 22; refine (HS.out _).mono ?_; rintro e w' ⟨rfl, rfl⟩))
    go_ret
    exact ⟨ret_u64 (by rw [HE.out]), HB.out⟩
  · rw [stG_out s h] at *
    rw [show decide (7 < 7) = false from rfl] at HR
    rw [paceG_none]
    clear h
    go_enter Tryd.func12, Tryd.ntmps12
    go_wp2_with (first
      | (go_at_call 8; refine (HR.out).mono ?_; rintro e w' ⟨rfl, rfl⟩))
    go_ret
    exact ⟨rfl, Below.refl _ _⟩

theorem rg_Window (s : Int) (x : Nat) (hx : x ≤ 18446744073709551615) (w : World) :
    Calls Tryd.prog 14 #[.int .i64 s, .int .u64 (x : Int)] w fun e w' => e = .returned (.int .u64 (windowG (stG s) x : Int)) ∧ Below w.heap.size w w' := by
  have HR := Lib.hid (rg_Right s w)
  rcases stG_cases s with ⟨k, hk, rfl⟩ | h
  · rw [stG_in k hk] at *
    rw [decide_eq_true hk] at HR
    have c0 := (Blk.new w 23 windowCells).cell (windowCells_at k hk)
    have i0 : (0 : Int) ≤ (k : Int) := by omega
    have i1 : (k : Int) < 7 := by omega
    have HB := Lib.hid ((Below.refl w.heap.size w).alloc (Nat.le_refl _) (.cells windowCells 23))
    have HN := Lib.hid (rg_windows w)
    have ha := flightG_le k
    have HS := Lib.hid (fun w => ref_Over x (flightG k) 100 w hx (by omega) (by omega))
    have HE : Hid (windowG k x = overS x (flightG k) 100) := Lib.hid rfl
    generalize flightG k = a at *
    generalize windowG k x = p at *
    generalize overS x a 100 = q at *
    generalize windowCells = cs at *
    clear hk ha hx
    go_enter Tryd.func14, Tryd.ntmps14
    go_wp2_with (first
      | (go_at_call 8; refine (HR.out).mono ?_; rintro e w' ⟨rfl, rfl⟩)
      | (go_at_call 26; refine (HN.out).mono ?_; rintro e w' ⟨rfl, rfl⟩)
      | (go_at_call 25; refine (HS.out _).mono ?_; rintro e w' ⟨rfl, rfl⟩))
    go_ret
    exact ⟨ret_u64 (by rw [HE.out]), HB.out⟩
  · rw [stG_out s h] at *
    rw [show decide (7 < 7) = false from rfl] at HR
    rw [windowG_none]
    clear h
    go_enter Tryd.func14, Tryd.ntmps14
    go_wp2_with (first
      | (go_at_call 8; refine (HR.out).mono ?_; rintro e w' ⟨rfl, rfl⟩))
    go_ret
    exact ⟨rfl, Below.refl _ _⟩

theorem nmB_eq (k : Nat) (hk : k < 7) (s : ByteArray) : ((nmB k).toList == s.toList) = decide (idxG s.data.toList = k) := by
  have : ((nmB k).toList == s.toList) = decide (nmG k = s.data.toList) := by
    rw [ByteArray.toList_eq, ByteArray.toList_eq, show (nmB k).data.toList = nmG k from rfl]
    by_cases h : nmG k = s.data.toList
    · rw [decide_eq_true h, h]; simp
    · rw [decide_eq_false h]; simpa using h
  rw [this]
  apply decide_eq_decide.2
  exact ⟨fun e => (idx_eq _ k hk).1 e.symm, fun e => ((idx_eq _ k hk).2 e).symm⟩
theorem idx_up (b : List UInt8) (k : Nat) (h : k ≤ idxG b) (hn : idxG b ≠ k) : k + 1 ≤ idxG b := by omega

set_option maxHeartbeats 1000000 in
theorem rg_Parse (s : ByteArray) (w : World) :
    Calls Tryd.prog 16 #[.string s] w fun e w' => e = .returned (.tuple #[.int .i64 (parS s.data.toList : Int), .int .i64 (parE s.data.toList : Int)]) ∧ Below w.heap.size w w' := by
  have HN := Lib.hid (rg_Names w)
  have HB := Lib.hid (Blk.new w 9 nmCells)
  have HW := Lib.hid ((Below.refl w.heap.size w).alloc (Nat.le_refl _) (.cells nmCells 9))
  have HC := Lib.hid nmCells_at
  generalize nmCells = cs at *
  go_enter Tryd.func16, Tryd.ntmps16
  go_wp2_with (first
    | (go_at_call 20; refine (HN.out).mono ?_; rintro e w' ⟨rfl, rfl⟩))
  go_loop [5] (fun i => ∃ k : Nat, i = .int .i64 (k : Int) ∧ k ≤ idxG s.data.toList ∧ k ≤ 7) (fun i => 7 - (intOf i).toNat)
  case atStart => exact ⟨0, rfl, Nat.zero_le _, by omega⟩
  case round =>
    obtain ⟨k, rfl, hk, hk7⟩ := hrel
    by_cases hlt : k < 7
    · have c0 := HB.out.cell (HC.out k hlt)
      have i0 : (0 : Int) ≤ (k : Int) := by omega
      have i1 : (k : Int) < 7 := by omega
      have he := nmB_eq k hlt s
      by_cases hq : idxG s.data.toList = k
      · rw [decide_eq_true hq] at he
        have HS : Hid (parS s.data.toList = k ∧ parE s.data.toList = 0) := Lib.hid ⟨by unfold parS; rw [hq, if_pos hlt], by unfold parE; rw [hq, if_pos hlt]⟩
        generalize nmB k = b at *
        clear hq hk hk7 hlt
        go_wp2
        go_ret2
        exact ⟨ret2i (by rw [HS.out.1]) (by rw [HS.out.2]; rfl), HW.out⟩
      · rw [decide_eq_false hq] at he
        have HU := Lib.hid (idx_up _ k hk hq)
        have HL := Lib.hid hlt
        generalize nmB k = b at *
        clear hq hk hk7 hlt
        go_wp2
        go_round
        case rel => exact ⟨k + 1, by go_num, HU.out, HL.out⟩
        case measure => simp [intOf]; have := HL.out; omega
    · obtain rfl : k = 7 := by omega
      have HS : Hid (parS s.data.toList = 0 ∧ parE s.data.toList = 31) := Lib.hid ⟨by unfold parS; rw [if_neg (by omega)], by unfold parE; rw [if_neg (by omega)]⟩
      clear hk hk7 hlt
      go_wp2
      go_ret2
      exact ⟨ret2i (by rw [HS.out.1]; rfl) (by rw [HS.out.2]; rfl), HW.out⟩
end Go.Proofs.YtokigijneengkaaDoor
