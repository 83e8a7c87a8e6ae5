/- Contracts of the document's own clock (goitref02) over this translation: three cells, and the same answers. -/
import Derived.Test.YthdfjhlnipaekaaClock
import Derived.Deep.QuietTactic
import Derived.BigQuiet
set_option linter.unusedVariables false
namespace Go.Proofs.Ythdfjhlnipaekaa
open Go.RowKit Pl

structure RefPost (w : World) (b : Nat) (r : Int) (s : CS) (e : Ending) (w' : World) : Prop where
  e : e = .returned (.int .i64 r)
  blk : Blk w' b 29 s.cells
  gr : w.grownBy w' (some b)

set_option maxHeartbeats 400000 in
theorem ref_To (b x : Nat) (s : CS) (w : World) (h : Blk w b 29 s.cells) :
    Calls Try.prog 10 #[.pointer (some ⟨b, 0, none⟩), .int .u64 (x : Int)] w (RefPost w b (s.toE x) (s.toS x)) := by
  have h0 := h.cell (i := 0) (v := .int .u64 s.t) rfl
  have h2 := h.cell (i := 2) (v := .bool s.p) rfl
  have f0 := h.free 0
  have f2 := h.free 2
  have HH := Lib.hid h
  clear h
  obtain ⟨t, n, p⟩ := s
  dsimp only at *
  cases p with
  | true =>
    go_enter Try.func10, Try.ntmps10
    go_wp2
    go_ret
    exact ⟨ret_i64 (by simp [CS.toE]), by simpa [CS.toS] using HH.out, gr_refl _ _⟩
  | false =>
    by_cases a : x < t
    · go_enter Try.func10, Try.ntmps10
      go_wp2
      go_ret
      exact ⟨ret_i64 (by simp [CS.toE, a]), by simpa [CS.toS, a] using HH.out, gr_refl _ _⟩
    · have ha : decide ((x : Nat) < t) = false := by simpa using a
      have HA := Lib.hid a
      clear a
      by_cases c : 4398046511104 < x
      · have hc : decide ((4398046511104 : Int) < (x : Int)) = true := by simp; omega
        have HC := Lib.hid c
        clear c
        go_enter Try.func10, Try.ntmps10
        go_wp2
        go_ret
        exact ⟨ret_i64 (by simp [CS.toE, HA.out, HC.out]), by simpa [CS.toS, HA.out, HC.out, CS.cells] using HH.out.set 2 (.bool true), gr_set (gr_refl _ _) _ _⟩
      · have hc : decide ((4398046511104 : Int) < (x : Int)) = false := by simp; omega
        have HC := Lib.hid c
        clear c
        go_enter Try.func10, Try.ntmps10
        go_wp2
        go_ret
        exact ⟨ret_i64 (by simp [CS.toE, HA.out, HC.out]), by simpa [CS.toS, HA.out, HC.out, CS.cells] using HH.out.set 0 (.int .u64 x), gr_set (gr_refl _ _) _ _⟩

set_option maxHeartbeats 400000 in
theorem ref_Count (b x : Nat) (s : CS) (w : World) (h : Blk w b 29 s.cells) (hx : x ≤ 18446744073709551615) (hs : s.n ≤ 72057594037927936) :
    Calls Try.prog 8 #[.pointer (some ⟨b, 0, none⟩), .int .u64 (x : Int)] w (RefPost w b (s.countE x) (s.countS x)) := by
  have h1 := h.cell (i := 1) (v := .int .u64 s.n) rfl
  have h2 := h.cell (i := 2) (v := .bool s.p) rfl
  have f1 := h.free 1
  have f2 := h.free 2
  have HH := Lib.hid h
  clear h
  obtain ⟨t, n, p⟩ := s
  dsimp only at *
  cases p with
  | true =>
    go_enter Try.func8, Try.ntmps8
    go_wp2
    go_ret
    exact ⟨ret_i64 (by simp [CS.countE]), by simpa [CS.countS] using HH.out, gr_refl _ _⟩
  | false =>
    by_cases a : 72057594037927936 < x
    · have ha : decide ((72057594037927936 : Int) < (x : Int)) = true := by simp; omega
      have HC : Hid (72057594037927936 < n + x) := Lib.hid (by omega)
      clear a
      go_enter Try.func8, Try.ntmps8
      go_wp2
      go_ret
      exact ⟨ret_i64 (by simp [CS.countE, HC.out]), by simpa [CS.countS, HC.out, CS.cells] using HH.out.set 2 (.bool true), gr_set (gr_refl _ _) _ _⟩
    · have ha : decide ((72057594037927936 : Int) < (x : Int)) = false := by simp; omega
      by_cases c : 72057594037927936 < n + x
      · have hc : decide ((72057594037927936 : Int) - (x : Int) < (n : Int)) = true := by simp; omega
        have HC := Lib.hid c
        clear c
        go_enter Try.func8, Try.ntmps8
        go_wp2
        go_ret
        exact ⟨ret_i64 (by simp [CS.countE, HC.out]), by simpa [CS.countS, HC.out, CS.cells] using HH.out.set 2 (.bool true), gr_set (gr_refl _ _) _ _⟩
      · have hc : decide ((72057594037927936 : Int) - (x : Int) < (n : Int)) = false := by simp; omega
        have HC := Lib.hid c
        clear c
        go_enter Try.func8, Try.ntmps8
        go_wp2
        go_ret
        exact ⟨ret_i64 (by simp [CS.countE, HC.out]), by simpa [CS.countS, HC.out, CS.cells] using HH.out.set 1 (.int .u64 ((n : Int) + (x : Int))), gr_set (gr_refl _ _) _ _⟩
end Go.Proofs.Ythdfjhlnipaekaa
