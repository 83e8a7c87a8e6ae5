/- New, InFlight, Next, Top over this translation; the calls of no ledger. -/
import Derived.Test.YtfpopbhbhdhdnaaOa
set_option linter.unusedVariables false
namespace Go.Proofs.Ytfpopbhbhdhdnaa
open Go.RowKit

def LS.empty (reorder : Nat) : LS := ⟨[], false, reorder, 0, 0, false⟩
theorem LS.empty_ok {reorder : Nat} (h : reorder ≤ 18446744073709551615) : (LS.empty reorder).ok :=
  ⟨List.nodup_nil, List.Pairwise.nil, (fun k h => by cases h), (fun k h => by cases h), fun _ => List.Pairwise.nil, Nat.zero_le _, h, Nat.zero_le _, fun _ => rfl⟩
/-- What New hands back. -/
structure NewL (w : World) (s : LS) (e : Ending) (w' : World) : Prop where
  at_ : ∃ b rb g, e = .returned (.pointer (some ⟨b, 0, none⟩)) ∧ LAt w' b rb g s ∧ ∀ x ∈ blocksL b rb g s, w.heap.size ≤ x
  bel : Below w.heap.size w w'

theorem new_any (reorder : Nat) (w : World) :
    Calls Try.prog 7 #[.int .u64 (reorder : Int)] w (NewL w (LS.empty reorder)) := by
  have HN : Hid (Calls Try.prog 19 #[.slice none 0 0] w (KMade w [])) := Lib.hid (k_new none 0 [] w (fun h => absurd h (by simp)) (by simp))
  go_enter Try.func7, Try.ntmps7
  go_wp2_with fail
  refine (HN.out).mono ?_
  rintro e w1 ⟨⟨rb, g, rfl, h1, h2, h3⟩, h4⟩
  have H1 := Lib.hid h1
  have H2 := Lib.hid h2
  have H3 := Lib.hid h3
  have H4 := Lib.hid h4
  clear h1 h2 h3 h4 HN
  go_wp2_with fail
  go_ret
  have e : lcells rb (LS.empty reorder) = #[.pointer (some ⟨rb, 0, none⟩), .int .i64 0, .int .u64 0, .int .u64 0, .bool false, .int .u64 (reorder : Int), .int .u64 0, .int .u64 0, .bool false] := by
    simp [lcells, LS.empty, outK, tot, outP, totP]
  refine ⟨⟨w1.heap.size, rb, g, rfl, ⟨by rw [e]; exact Blk.new _ _ _, H1.out.alloc _, fun k h => by cases h⟩, ?_⟩, H4.out.alloc H4.out.size _⟩
  intro x hx
  simp [blocksL, LS.empty] at hx
  rcases hx with rfl | rfl | rfl
  · exact H4.out.size
  · exact H2.out
  · exact H3.out

/-- The bytes of those that are out. -/
def infl (T : Nat) : Nat := if T < M64 then T else 18446744073709551615
theorem inflight_any (b rb g : Nat) (s : LS) (w : World) (h : LAt w b rb g s) :
    Calls Try.prog 17 #[.pointer (some ⟨b, 0, none⟩)] w fun e w' => e = .returned (.int .u64 ((infl (tot s.ks) : Nat) : Int)) ∧ w = w' := by
  have h2 := h.head.cell (i := 2) (v := .int .u64 ((tot s.ks / M64 : Nat) : Int)) rfl
  have h3 := h.head.cell (i := 3) (v := .int .u64 ((tot s.ks % M64 : Nat) : Int)) rfl
  clear h
  have hc : (0 < tot s.ks / M64 ∧ infl (tot s.ks) = 18446744073709551615) ∨ (tot s.ks / M64 = 0 ∧ infl (tot s.ks) = tot s.ks % M64) := by
    unfold infl
    by_cases c : tot s.ks < M64
    · rw [if_pos c, Nat.div_eq_of_lt c, Nat.mod_eq_of_lt c]; exact .inr ⟨rfl, rfl⟩
    · rw [if_neg c]; exact .inl ⟨Nat.div_pos (by omega) M64_pos, rfl⟩
  rcases hc with ⟨c1, c2⟩ | ⟨c1, c2⟩
  · rw [c2]
    clear c2
    generalize tot s.ks / M64 = hi at *
    generalize tot s.ks % M64 = lo at *
    have d : decide (0 < hi) = true := by simpa using c1
    go_enter Try.func17, Try.ntmps17
    go_wp2
    go_ret
    exact ⟨rfl, rfl⟩
  · rw [c2]
    rw [c1] at h2
    clear c1 c2
    generalize tot s.ks % M64 = lo at *
    go_enter Try.func17, Try.ntmps17
    go_wp2
    go_ret
    exact ⟨rfl, rfl⟩
theorem next_any (b rb g : Nat) (s : LS) (w : World) (h : LAt w b rb g s) :
    Calls Try.prog 18 #[.pointer (some ⟨b, 0, none⟩)] w fun e w' => e = .returned (.int .u64 (s.next : Int)) ∧ w = w' := by
  have h6 := h.head.cell (i := 6) (v := .int .u64 (s.next : Int)) rfl
  clear h
  go_enter Try.func18, Try.ntmps18
  go_wp2
  go_ret
  exact ⟨rfl, rfl⟩
theorem top_any (b rb g : Nat) (s : LS) (w : World) (h : LAt w b rb g s) :
    Calls Try.prog 16 #[.pointer (some ⟨b, 0, none⟩)] w fun e w' => e = .returned (.tuple #[.int .u64 (s.top : Int), .bool s.topped]) ∧ Drawn w w' := by
  have h7 := h.head.cell (i := 7) (v := .int .u64 (s.top : Int)) rfl
  have h8 := h.head.cell (i := 8) (v := .bool s.topped) rfl
  clear h
  go_enter Try.func16, Try.ntmps16
  go_wp2
  go_quiet (fail)
  go_wp2
  go_ret2
  exact ⟨rfl, ⟨nq, rfl⟩⟩

theorem top_nil (w : World) : Calls Try.prog 16 #[.pointer none] w fun e w' => e = .returned (.tuple #[.int .u64 0, .bool false]) ∧ w = w' := by
  go_enter Try.func16, Try.ntmps16
  go_wp2
  go_ret2
  exact ⟨rfl, rfl⟩
theorem next_nil (w : World) : Calls Try.prog 18 #[.pointer none] w fun e w' => e = .returned (.int .u64 0) ∧ w = w' := by
  go_enter Try.func18, Try.ntmps18
  go_wp2
  go_ret
  exact ⟨rfl, rfl⟩
theorem inflight_nil (w : World) : Calls Try.prog 17 #[.pointer none] w fun e w' => e = .returned (.int .u64 0) ∧ w = w' := by
  go_enter Try.func17, Try.ntmps17
  go_wp2
  go_ret
  exact ⟨rfl, rfl⟩
theorem out_nil (w : World) : Calls Try.prog 11 #[.pointer none] w fun e w' => e = .returned (.slice none 0 0) ∧ w = w' := by
  go_enter Try.func11, Try.ntmps11
  go_wp2
  go_ret
  exact ⟨rfl, rfl⟩
theorem clone_nil (w : World) : Calls Try.prog 13 #[.pointer none] w fun e w' => e = .returned (.pointer none) ∧ w = w' := by
  go_enter Try.func13, Try.ntmps13
  go_wp2
  go_ret
  exact ⟨rfl, rfl⟩
theorem send_nil (n : Nat) (v0 v1 v2 v3 : Nat) (l : Bool) (w : World) : Calls Try.prog 8 #[.pointer none, .int .u64 (n : Int), .agg #[.int .u64 (v0 : Int), .int .u64 (v1 : Int), .int .u64 (v2 : Int), .int .u64 (v3 : Int), .bool l]] w fun e w' => e = .returned (.int .u64 0) ∧ Below w.heap.size w w' := by
  go_enter Try.func8, Try.ntmps8
  go_wp2
  go_ret
  exact ⟨rfl, (Below.refl _ _).alloc (Nat.le_refl _) _⟩
theorem lost_nil (x y z : Nat) (w : World) : Calls Try.prog 10 #[.pointer none, .int .u64 (x : Int), .int .u64 (y : Int), .int .u64 (z : Int)] w fun e w' => e = .returned (.slice none 0 0) ∧ Below w.heap.size w w' := by
  go_enter Try.func10, Try.ntmps10
  go_wp2
  go_ret
  exact ⟨rfl, ((((Below.refl _ _).alloc (Nat.le_refl _) _).alloc (by simp) _).alloc (by simp; omega) _).alloc (by simp; omega) _⟩
theorem ack_nil (v : Value) (w : World) : Calls Try.prog 9 #[.pointer none, v] w fun e w' => e = .returned (.tuple #[.slice none 0 0, .int .i64 1]) ∧ Below w.heap.size w w' := by
  go_enter Try.func9, Try.ntmps9
  go_wp2
  go_ret2
  exact ⟨rfl, (Below.refl _ _).alloc (Nat.le_refl _) _⟩
end Go.Proofs.Ytfpopbhbhdhdnaa
